import PyProof.Rows.All
import Wide.All
import OpenK.AllK
import Wide.FinOn
import Lean
import PyProof.EqAt
import PyProof.EqKinds
import PyProof.TupleCall
import PyProof.DictWalks
import PyProof.ExcAttrAll.ValueError
import PyProof.ExcBaseAll.ValueError
import PyProof.ZipIter
import PyProof.SumWalk
import PyProof.Rows.SortShellK
import PyProof.Rows.SortStr
import PyProof.DictKinds
import PyProof.Rows.CallKwBuiltin
import PySem.Challenge.RW_ownshelf_k23_values_of_keys
set_option Elab.async false
set_option linter.all false
set_option maxRecDepth 100000
set_option maxHeartbeats 8000000
set_option compiler.extract_closed false
set_option compiler.reuse false
set_option bootstrap.genMatcherCode false
abbrev zFr:=PySem.W.Frag
abbrev zLA:=List (PySem.Str×PySem.Addr)
abbrev zAO:=List (PySem.Addr×PySem.Obj)
abbrev zVP:=PySem.Value->PySem.Shared->Prop
abbrev zMg:=PySem.Str->Option PySem.Value
abbrev z4t:=@List.length_append
abbrev z4u:=@PySem.wpAny_bind
abbrev z4v:=@Nat.le_refl
abbrev z4w:=@Nat.lt_of_lt_of_le
abbrev z4x:=@List.getElem?_eq_getElem
abbrev z4y:=@List.pairwise_append
abbrev z4z:=@PySem.Heap.get?_push_of_some
abbrev z40:=@List.mem_cons_of_mem
abbrev z41:=@PyProof.Rows.wpS_bind
abbrev z42:=@List.getElem?_eq_some_iff
abbrev z43:=@List.mem_singleton
abbrev z44:=@List.mem_append_right
abbrev z45:=@List.size_toArray
abbrev z46:=@List.mem_cons
abbrev z47:=@Bool.false_eq_true
abbrev z48:=@List.append_assoc
abbrev z49:=@List.length_take
abbrev z5a:=@List.map_cons
abbrev z5b:=@PyProof.Rows.wpS_pure
abbrev z5c:=@List.mem_cons_self
abbrev z5d:=@Nat.le_add_right
abbrev z5e:=@PySem.wpAny_pure
abbrev z5f:=@PySem.Heap.lt_size
abbrev z5g:=@if_pos
abbrev z5h:=@Nat.ne_of_lt
abbrev z5i:=@List.getElem?_append_right
abbrev z5j:=@Nat.le_trans
abbrev z5k:=@List.mem_append
abbrev z5l:=@Nat.le_of_ble_eq_true
abbrev z5m:=@decide_eq_false
abbrev z5n:=@if_neg
abbrev z5o:=@List.length_drop
abbrev z5p:=@List.getElem_of_mem
abbrev z5q:=@List.append_nil
abbrev z5r:=@List.mem_of_mem_take
abbrev z5s:=@PySem.Heap.get?_push_size
abbrev z5t:=@List.mem_of_getElem?
abbrev z5u:=@List.forall_mem_cons
abbrev z5v:=@List.getElem?_append_left
abbrev z5w:=@decide_eq_true
abbrev z5x:=@Array.getElem?_eq_getElem
abbrev z5y:=@Nat.zero_le
abbrev z5z:=@Array.toList_append
abbrev z50:=@Bool.and_eq_true
abbrev z51:=@List.getElem?_set_self
abbrev z52:=@Array.size_push
abbrev z53:=@Option.some.inj
abbrev z54:=@List.getElem?_map
abbrev z55:=@List.all_eq_true
abbrev z56:=@List.length_map
abbrev z57:=@Array.getElem?_toList
abbrev z58:=@Int.emod_lt_of_pos
abbrev z59:=@List.take_of_length_le
abbrev z6a:=@List.mem_append_left
abbrev z6b:=@if_false
abbrev z6c:=@PySem.wpAny_truthy_bool
abbrev z6d:=@PySem.W.mg_none_of
abbrev z6e:=@List.take_append_drop
abbrev z6f:=@List.cons_lt_cons_iff
abbrev z6g:=@List.length_reverse
abbrev z6h:=@PySem.W.kia_one
abbrev z6i:=@decide_eq_decide
abbrev z6j:=@List.getElem?_set_ne
abbrev z6k:=@PyProof.Rows.wpS_forRange
abbrev z6l:=@List.drop_of_length_le
abbrev z6m:=@Bool.false_ne_true
abbrev z6n:=@PySem.wpAny_Call_Name_kw
abbrev z6o:=@Nat.lt_of_le_of_lt
abbrev z6p:=@PySem.sizeLine_eq
abbrev z6q:=@List.mem_map_of_mem
abbrev z6r:=@Int.emod_nonneg
abbrev z6s:=@if_true
abbrev z6t:=@List.not_lt
abbrev z6u:=@Nat.le_of_lt
abbrev z6v:=@List.drop_eq_getElem_cons
abbrev z6w:=@List.pairwise_iff_getElem
abbrev z6x:=@PyProof.Rows.wpS_mono
abbrev z6y:=@List.drop_append_of_le_length
abbrev z6z:=@List.take_append_of_le_length
abbrev z60:=@Nat.lt_or_ge
abbrev z61:=@Nat.lt_irrefl
abbrev z62:=@Nat.add_sub_cancel_left
abbrev z63:=@List.pairwise_cons
abbrev z64:=@congrArg
abbrev z65:=@PySem.mem_of_lookup
abbrev z66:=@PySem.Heap.get?_update_ne
abbrev z67:=@List.cons.injEq
abbrev z68:=@List.mem_map
abbrev z69:=@PySem.wpAny_mono
abbrev z7a:=@Option.isSome_iff_exists
abbrev z7b:=@PySem.Heap.get?_none_of_le
abbrev z7c:=@Array.toList_extract
abbrev z7d:=@List.mem_of_mem_drop
abbrev z7e:=@Ne.symm
abbrev z7f:=@Bool.not_true
abbrev z7g:=@List.pairwise_singleton
abbrev z7h:=@of_decide_eq_true
abbrev z7i:=@List.getElem_take
abbrev z7j:=@List.getElem_drop
abbrev z7k:=@PyProof.Rows.callWith_type1
abbrev z7l:=@List.nodup_cons
abbrev z7m:=@List.of_mem_zip
abbrev z7n:=@Nat.add_lt_add_left
abbrev z7o:=@List.Perm.append_right
abbrev z7p:=@PySem.wpAny_execs_cons
abbrev z7q:=@beq_iff_eq
abbrev z7r:=@PySem.W.callWith_K
abbrev z7s:=@List.Perm.append_left
abbrev z7t:=@Nat.add_assoc
abbrev z7u:=@PySem.W.hideAll_none
abbrev z7v:=@List.reverse_reverse
abbrev z7w:=@List.getElem?_take_of_lt
abbrev z7x:=@PyProof.Rows.slot_tuple_getitem
abbrev z7y:=@List.length_set
abbrev z7z:=@Nat.le_antisymm
abbrev z70:=@Nat.min_eq_left
abbrev z71:=@PySem.W.hideAll_get
abbrev z72:=@decide_eq_false_iff_not
abbrev z73:=@List.mem_reverse
abbrev z74:=@List.getElem_mem
abbrev z75:=@PySem.Heap.size_update
abbrev z76:=@PyProof.Rows.wpS_modify
abbrev z77:=@List.Perm.refl
abbrev z78:=@List.drop_zero
abbrev z79:=@Nat.add_sub_cancel
abbrev z8a:=@List.forIn_cons
abbrev z8b:=@List.map_map
abbrev z8c:=@List.perm_append_comm
abbrev z8d:=@List.Pairwise.sublist
abbrev z8e:=@Nat.add_lt_of_lt_sub'
abbrev z8f:=@PySem.wpAny_newObj_type
abbrev z8g:=@List.reverse_cons
abbrev z8h:=@List.pairwise_map
abbrev z8i:=@Nat.lt_succ_of_lt
abbrev z8j:=@Array.toList_push
abbrev z8k:=@Array.toList_reverse
abbrev z8l:=@beq_eq_false_iff_ne
abbrev z8m:=@List.reverse_append
abbrev z8n:=@Nat.add_sub_cancel'
abbrev z8o:=@List.flatten_append
abbrev z8p:=@PySem.codeAny_mono
abbrev z8q:=@PySem.F.args_tuple_add_2
abbrev z8r:=@Nat.not_lt
abbrev z8s:=@Array.findIdx?_eq_some_iff_getElem
abbrev z8t:=@PySem.wpAny_passesOwn
abbrev z8u:=@PySem.F.entry_tuple_add
abbrev z8v:=@PySem.W.mg_of
abbrev z8w:=@Bool.and_true
abbrev z8x:=@List.getElem?_drop
abbrev z8y:=@Nat.not_lt_zero
abbrev z8z:=@PySem.F.slot_tuple_add
abbrev z80:=@PySem.Heap.get?_update_other
abbrev z81:=@List.drop_eq_nil_of_le
abbrev z82:=@List.flatten_singleton
abbrev z83:=@List.filter_eq_nil_iff
abbrev z84:=@List.take_sublist
abbrev z85:=@List.nodup_append
abbrev z86:=@Bool.eq_false_iff
abbrev z87:=@Nat.le_of_lt_succ
abbrev z88:=@Array.size_append
abbrev z89:=@List.drop_drop
abbrev z9a:=@List.lt_irrefl
abbrev z9b:=@PySem.Heap.get?_update_self
abbrev z9c:=@Nat.zero_add
abbrev z9d:=@Nat.succ.inj
abbrev z9e:=@Nat.max_eq_right
abbrev z9f:=@List.le_antisymm
abbrev z9g:=@Nat.pow_le_pow_right
abbrev z9h:=@PySem.wpAny_attempt
abbrev z9i:=@PySem.wpAny_call
abbrev z9j:=@List.mem_filter
abbrev z9k:=@PySem.wpAny_execs_nil
abbrev z9l:=@PySem.W.plainGet_of
abbrev z9m:=@PySem.F.attrBase_ValueError
abbrev z9n:=@PyProof.Rows.wpS_get
abbrev z9o:=@Nat.add_le_add_left
abbrev z9p:=@List.length_pos_iff
abbrev z9q:=@PySem.PassesOwn.never
abbrev z9r:=@Array.toList_setIfInBounds
abbrev z9s:=@PySem.W.of_hideAll
abbrev z9t:=@PySem.Calls.spliced_cons
abbrev z9u:=@Nat.sub_self
abbrev z9v:=@List.getElem?_take
abbrev z9w:=@PyProof.Rows.listItems_at
abbrev z9x:=@Bool.false_and
abbrev z9y:=@PySem.wpAny_loadPart
abbrev z9z:=@PySem.Heap.size_push
abbrev z90:=@List.drop_left
abbrev z91:=@Nat.add_le_add
abbrev z92:=@PySem.wpAny_Return_some
abbrev z93:=@PySem.W.kitx_list
abbrev z94:=@Array.size_setIfInBounds
abbrev z95:=@Nat.sub_pos_of_lt
abbrev z96:=@PyProof.Rows.size_push'
abbrev z97:=@Nat.le_succ
abbrev z98:=@List.getElem_inj
abbrev z99:=@Nat.lt_succ_self
abbrev qaa:=@Nat.succ_le_succ
abbrev qab:=@PySem.concat_meets
abbrev qac:=@Nat.min_le_left
abbrev qad:=@Int.ofNat_lt
abbrev qae:=@Bool.eq_iff_iff
abbrev qaf:=@Int.add_zero
abbrev qag:=@Bool.not_false
abbrev qah:=@List.take_left
abbrev qai:=@List.take_take
abbrev qaj:=@Nat.sub_le
noncomputable section
namespace L2
open PySem PySem.Spec PyProof.Rows
abbrev Key:=Sum Int Str
def zyq:Key->Value->Bool
 | .inl k,v=>Value.isInt k v
 | .inr x,v=>Value.isStrOf x v
def z4e(w:World):Key->Int
 | .inl k=>hashInt k
 | .inr x=>hashStr w x
theorem jh:∀{k:Key}{v:Value},zyq k v=true->(∃i t,k=Sum.inl i/\v=Value.int i t)\/(∃x t,k=Sum.inr x/\v=Value.str x t)
 | .inl i,v,h=>by obtain⟨t,e⟩:=Value.isInt_shape (k:=i) (v:=v) h;exact .inl ⟨i,t,rfl,e⟩
 | .inr x,v,h=>by obtain⟨t,e⟩:=Value.isStrOf_shape (x:=x) (v:=v) h;exact .inr ⟨x,t,rfl,e⟩
theorem zyo(a b:Int):decide ((Sum.inl a:Key)=Sum.inl b)=(a==b):=by
 by_cases e:a=b
 · subst e;simp
 · have h:¬ (Sum.inl a:Key)=Sum.inl b:=fun q=>e (Sum.inl.inj q);rw[z5m h];exact(z8l.mpr e).symm
theorem zyk(a b:Str):decide ((Sum.inr a:Key)=Sum.inr b)=decide (a=b):=by
 by_cases e:a=b
 · subst e;simp
 · have h:¬ (Sum.inr a:Key)=Sum.inr b:=fun q=>e (Sum.inr.inj q);rw[z5m h,z5m e]
theorem zyn(a:Int)(b:Str):decide ((Sum.inl a:Key)=Sum.inr b)=false:=z5m (fun q=>nomatch q)
theorem zyl(a:Str)(b:Int):decide ((Sum.inr a:Key)=Sum.inl b)=false:=z5m (fun q=>nomatch q)
def znq(prog:Program)(w:World):PySem.KeyKind prog w Key where
 is:=zyq
 hash:=z4e w
 inj:=fun v a b ha hb=>by
   rcases jh ha with⟨i,t,rfl,rfl⟩ | ⟨x,t,rfl,rfl⟩
   · rcases jh hb with⟨j,u,rfl,e⟩ | ⟨y,u,rfl,e⟩
     · injection e with e1 _;rw[e1]
     · exact nomatch e
   · rcases jh hb with⟨j,u,rfl,e⟩ | ⟨y,u,rfl,e⟩
     · exact nomatch e
     · injection e with e1 _;rw[e1]
 byValue:=fun k v h=>by rcases jh h with⟨i,t,rfl,rfl⟩ | ⟨x,t,rfl,rfl⟩<;>rfl
 pyHash:=fun hv h=>by
   rcases jh hv with⟨i,t,rfl,rfl⟩ | ⟨x,t,rfl,rfl⟩
   · exact wpAny_pyHash_int h
   · exact wpAny_pyHash_str h
 eqBool:=fun hu hv h=>by
   rcases jh hu with⟨i,t,rfl,rfl⟩ | ⟨x,t,rfl,rfl⟩
   · rcases jh hv with⟨j,u,rfl,rfl⟩ | ⟨y,u,rfl,rfl⟩
     · rw[zyo]at h;exact wpAny_eqBool_int h
     · rw[zyn]at h;exact SeqAt.EqAt.int_str i t y u _ _ _ _ h
   · rcases jh hv with⟨j,u,rfl,rfl⟩ | ⟨y,u,rfl,rfl⟩
     · rw[zyl]at h;exact SeqAt.EqAt.str_int x t j u _ _ _ _ h
     · rw[zyk]at h;exact wpAny_eqBool_str h
 «strs»:=fun k x t v h=>by
   rcases jh h with⟨i,u,rfl,e⟩ | ⟨y,u,rfl,e⟩
   · exact nomatch e
   · injection e with e1 _;subst e1;cases v<;>rfl
inductive V where
 |non | bl (b:Bool) | int (i:Int) | str (x:Str) | byt (b:Array UInt8) | flt (b:UInt64) | ref (a:Addr) | ty (n:String)
 deriving DecidableEq
def RelV:V->Value->Prop
 | .non,u=>u=Value.none
 | .bl b,u=>u=Value.bool b
 | .int i,u=>∃t,u=Value.int i t
 | .str x,u=>∃t,u=Value.str x t
 | .byt b,u=>∃t,u=Value.bytes b t
 | .flt b,u=>∃t,u=Value.float b t
 | .ref a,u=>u=Value.ref a
 | .ty n,u=>u=Value.type n
abbrev Vals:List V->List Value->Prop:=Paired RelV
theorem Vals.length{xs:List V}{us:List Value}(r:Vals xs us):xs.length=us.length:=Paired.length r
theorem Vals.get:∀{xs:List V}{us:List Value}{i:Nat}{x:V},Vals xs us->xs[i]? = some x->∃u,us[i]? = some u/\RelV x u
 |_,_,_,_,.nil,e=>by simp at e
 |_,_,0,_,.cons r _,e=>by simp at e;subst e;exact⟨_,rfl,r⟩
 | _,_,i+1,x,.cons _ t,e=>by obtain⟨u,h1,h2⟩:=Vals.get (i:=i) (x:=x) t (by simpa using e);exact⟨u,by simpa using h1,h2⟩
theorem Vals.append:∀{xs ys:List V}{us ws:List Value},Vals xs us->Vals ys ws->Vals (xs++ys) (us++ws)
 |_,_,_,_,.nil,s=>s
 |_,_,_,_,.cons r t,s=>.cons r (Vals.append t s)
theorem Vals.take:∀{xs:List V}{us:List Value} (n:Nat),Vals xs us->Vals (xs.take n) (us.take n)
 |_,_,0,_=>.nil
 |_,_,_+1,.nil=>.nil
 |_,_,n+1,.cons r t=>.cons r (Vals.take n t)
theorem Vals.drop:∀{xs:List V}{us:List Value} (n:Nat),Vals xs us->Vals (xs.drop n) (us.drop n)
 |_,_,0,r=>r
 |_,_,_+1,.nil=>.nil
 |_,_,n+1,.cons _ t=>Vals.drop n t
def RelO:Option V->Option Value->Prop
 |some v,some u=>RelV v u
 |none,none=>True
 |_,_=>False
def KV{κ:Type}:List (κ×V)->List (κ×Value)->Prop:=Paired fun(p:κ×V) (q:κ×Value)=>p.1=q.1/\RelV p.2 q.2
def kV:Key->V
 | .inl i=>.int i
 | .inr x=>.str x
inductive HO where
   |lst (xs:List V)
   |tup (xs:List V)
   |dK (kvs:List (Key×V)) | dT (kvs:List (List Key×V))
   |set (S:Int->Bool) (n:Nat)
   |ins (C dx:Addr) (fs:List (Str×V))
   |own (x:Addr)
   |xd (fs:List (Str×V))
   |met (f x:Addr)
   |rng (lo hi:Int)
   |frz (o:Obj) (u:HO)
   |tbl (ps:Array Value)
   |ext (φ:Heap->Prop)
abbrev Hp:=Addr->Option HO
def upd(H:Hp)(a:Addr)(o:HO):Hp:=fun b=>if b=a then some o else H b
theorem qg{H:Hp}{a:Addr}{o:HO}:upd H a o a=some o:=by unfold upd;rw[z5g rfl]
theorem z0{H:Hp}{a b:Addr}{o:HO}(h:b≠a):upd H a o b=H b:=by unfold upd;rw[z5n h]
theorem qv{H:Hp}{a b:Addr}{o:HO}(h:H a=some o)(h':H b=none):a≠b:=by intro e;subst e;rw[h]at h';cases h'
section
variable (P:Program) (w:World)
def ObjOk(H:Hp)(h:Heap)(a:Addr):HO->Prop
 | .lst xs=>xs.length<=sizeLine/\∃(its:List Value) (n:Nat),Vals xs its/\h.get? a=some { cls:=.type "list",data:=.seq its.toArray n }
 | .tup xs=>xs.length<=sizeLine/\∃its:List Value,Vals xs its/\IsTup h a its.toArray
 | .dK kvs=>kvs.length<=sizeLine/\(a==sysModules)=false/\∃vs,KV kvs vs/\h.DictOf (znq P w) a vs
 | .dT kvs=>kvs.length<=sizeLine/\(a==sysModules)=false/\∃xs:List (List Key×Addr×Value),
     Paired (fun(p:List Key×V) (q:List Key×Addr×Value)=>p.1=q.1/\H q.2.1=some (.tup (p.1.map kV))/\RelV p.2 q.2.2) kvs xs /\
     ∃o es ep,h.get? a=some o/\o.ExactDict/\o.data=.dict es ep/\es.toList=xs.map (entryOfKey (tupleKind (znq P w)))/\(xs.map (·.1)).Nodup
 | .set S n=>h.SetOf (intKind P w) a S n
 | .ins C dx fs=>H dx=some (.own a)/\fs.length<=1000/\dx≠a/\h.get? a=some (PySem.W.instObj C dx) /\
     ∃mA,h.Ns1 dx mA/\(∀f,RelO (fs.lookup f) (mA f))/\PySem.Within mA (fs.map (·.1))
 | .own _=>∃o,h.get? a=some o
 | .xd fs=>∃mA,h.Ns1 a mA/\∀f,RelO (fs.lookup f) (mA f)
 | .rng lo hi=>∃t u v,h.get? a=some { cls:=.type "range",data:=.fields #[.int lo t,.int hi u,.int 1 v] }
 | .frz o u=>h.get? a=some o/\ObjOk H h a u
 | .tbl ps=>h.get? a=some { cls:=.none,data:=.fields ps }
 | .met f x=>h.get? a=some (PySem.W.methodObj (.ref f) (.ref x))
 | .ext φ=>φ h/\(∃o,h.get? a=some o)/\∀h1 h2:Heap,φ h1->(∀o,h1.get? a=some o->h2.get? a=some o)->φ h2
def HOk(H:Hp)(h:Heap):Prop:=∀a o,H a=some o->ObjOk P w H h a o
end
section
variable {P:Program}{w:World}{H H':Hp}{h h':Heap}{a:Addr}{o:HO}
theorem ObjOk.lt(x:ObjOk P w H h a o):a<h.objs.size:=by
 cases o with
 |lst xs=>obtain⟨_,_,_,_,e⟩:=x;exact z5f e
 |tup xs=>obtain⟨_,_,_,p⟩:=x;exact p.lt
 |dK kvs=>obtain⟨_,_,_,_,o,_,_,e,_⟩:=x;exact z5f e
 |dT kvs=>obtain⟨_,_,_,_,o,_,_,e,_⟩:=x;exact z5f e
 |set S n=>obtain⟨o,_,_,_,e,_⟩:=x;exact z5f e
 |ins C dx fs=>obtain⟨_,_,_,e,_⟩:=x;exact z5f e
 |own y=>obtain⟨_,e⟩:=x;exact z5f e
 |xd fs=>obtain⟨_,⟨_,_,_,e,_⟩,_⟩:=x;exact z5f e
 |rng lo hi=>obtain⟨_,_,_,e⟩:=x;exact z5f e
 |frz ob u=>obtain⟨e,_⟩:=x;exact z5f e
 |tbl ps=>exact z5f (show h.get? a=some _ from x)
 |met f y=>exact z5f (show h.get? a=some _ from x)
 |ext φ=>obtain⟨_,⟨_,e⟩,_⟩:=x;exact z5f e
theorem Paired.mapP{α β:Type}{F G:α->β->Prop}:∀{l₁:List α}{l₂:List β},Paired F l₁ l₂->(∀a b,F a b->G a b)->Paired G l₁ l₂
 |_,_,.nil,_=>.nil
 |_,_,.cons r t,f=>.cons (f _ _ r) (Paired.mapP t f)
theorem ObjOk.stay(x:ObjOk P w H h a o)(k:∀b u,(b=a\/H b=some (.own a))->h.get? b=some u->h'.get? b=some u)
   (ho:∀b,H b=some (.own a)->H' b=some (.own a)) (ht:∀b xs,H b=some (.tup xs)->H' b=some (.tup xs)):ObjOk P w H' h' a o:=by
 induction o with
 |lst xs=>obtain⟨z,its,n,r,e⟩:=x;exact⟨z,its,n,r,k _ _ (.inl rfl) e⟩
 |tup xs=>obtain⟨z,its,r,ob,e,c⟩:=x;exact⟨z,its,r,ob,k _ _ (.inl rfl) e,c⟩
 |dK kvs=>obtain⟨z,y,vs,r,ob,es,ep,e,c⟩:=x;exact⟨z,y,vs,r,ob,es,ep,k _ _ (.inl rfl) e,c⟩
 | dT kvs=>
   obtain⟨z,y,xs,r,ob,es,ep,e,c⟩:=x;exact⟨z,y,xs,Paired.mapP r fun p q z=>⟨z.1,ht _ _ z.2.1,z.2.2⟩,ob,es,ep,k _ _ (.inl rfl) e,c⟩
 |set S n=>obtain⟨ob,es,ep,t,e,c⟩:=x;exact⟨ob,es,ep,t,k _ _ (.inl rfl) e,c⟩
 | ins C dx fs=>
   obtain⟨d,z,ne,e,mA,⟨od,es,ep,e2,c⟩,r⟩:=x;exact⟨ho _ d,z,ne,k _ _ (.inl rfl) e,mA,⟨od,es,ep,k _ _ (.inr d) e2,c⟩,r⟩
 |own y=>obtain⟨ob,e⟩:=x;exact⟨ob,k _ _ (.inl rfl) e⟩
 |xd fs=>obtain⟨mA,⟨od,es,ep,e,c⟩,r⟩:=x;exact⟨mA,⟨od,es,ep,k _ _ (.inl rfl) e,c⟩,r⟩
 |rng lo hi=>obtain⟨t,u,v,e⟩:=x;exact⟨t,u,v,k _ _ (.inl rfl) e⟩
 |frz ob u ih=>obtain⟨e,q⟩:=x;exact⟨k _ _ (.inl rfl) e,ih q⟩
 | tbl ps=>
   have e:h.get? a=some { cls:=.none,data:=.fields ps }:=x;show h'.get? a=some { cls:=.none,data:=.fields ps };exact k a _ (.inl rfl) e
 | met f y=>
   have e:h.get? a=some (PySem.W.methodObj (.ref f) (.ref y)):=x;show h'.get? a=some (PySem.W.methodObj (.ref f) (.ref y));exact k a _ (.inl rfl) e
 |ext φ=>obtain⟨p,⟨o,e⟩,st⟩:=x;exact⟨st _ _ p fun o q=>k _ _ (.inl rfl) q,⟨o,k _ _ (.inl rfl) e⟩,st⟩
theorem HOk.lt(x:HOk P w H h)(e:H a=some o):a<h.objs.size:=(x a o e).lt
theorem HOk.fresh(x:HOk P w H h)(e:h.objs.size<=a):H a=none:=by
 cases q:H a with
 |none=>rfl
 |some u=>exact absurd (z4w (x.lt q) e) (z61 _)
theorem HOk.kept(x:HOk P w H h)(k:∀b u,h.get? b=some u->h'.get? b=some u):HOk P w H h':=fun a o e=>
 (x a o e).stay (fun b u _ q=>k b u q) (fun _ q=>q) fun _ _ q=>q
theorem HOk.laid(x:HOk P w H h)(k:∀b u,h.get? b=some u->h'.get? b=some u)(hp:h.objs.size<=a)(new:ObjOk P w (upd H a o) h' a o):HOk P w (upd H a o) h':=fun b u e=>by
 have hn:=x.fresh hp;by_cases hb:b=a
 · subst hb;rw[qg]at e;cases e;exact new
 · rw[z0 hb]at e;exact(x b u e).stay (fun c v _ q=>k c v q) (fun c q=>by rw[z0 (qv q hn)];exact q) fun c xs q=>by rw[z0 (qv q hn)];exact q
end
def Rd(H:Hp)(a:Addr)(u:HO):Prop:=H a=some u\/∃o,H a=some (.frz o u)
theorem Rd.ok{P:Program}{w:World}{H:Hp}{h:Heap}{a:Addr}{u:HO}(r:Rd H a u)(x:HOk P w H h):ObjOk P w H h a u:=by
 rcases r with r | ⟨o,r⟩
 · exact x a u r
 · obtain⟨_,q⟩:=x a _ r;exact q
def Mut:Option HO->Prop
 |some (.lst _)=>True
 |some (.dK _)=>True
 |some (.dT _)=>True
 |some (.set _ _)=>True
 |some (.ins _ _ _)=>True
 |some (.ext _)=>True
 |_=>False
section
variable {P:Program}{w:World}{H:Hp}{h h':Heap}{x e:Addr}{o':HO}
theorem HOk.write(ok:HOk P w H h)(mu:Mut (H x))(he:e=x\/H e=some (.own x))(k:∀b u,b≠e->h.get? b=some u->h'.get? b=some u)(heo:∃u,h'.get? e=some u)
   (new:ObjOk P w (upd H x o') h' x o'):HOk P w (upd H x o') h':=fun b u q=>by
 have nown:∀c y,H c=some (.own y)->c≠x:=fun c y r z=>by subst z;rw[r]at mu;exact mu
 have ntup:∀c xs,H c=some (.tup xs)->c≠x:=fun c xs r z=>by subst z;rw[r]at mu;exact mu
 by_cases hb:b=x
 · subst hb;rw[qg]at q;cases q;exact new
 · rw[z0 hb]at q;by_cases hbe:b=e
   · have q':H b=some (.own x):=by
       rcases he with z | z
       · exact absurd (hbe.trans z) hb
       · rw[hbe];exact z
     rw[q]at q';cases q';obtain⟨v,hv⟩:=heo;exact⟨v,by rw[hbe];exact hv⟩
   · refine(ok b u q).stay (fun c v hc r=>k c v ?_ r) (fun c r=>by rw[z0 (nown c b r)];exact r) fun c xs r=>by rw[z0 (ntup c xs r)];exact r
     rcases hc with rfl | hc
     · exact hbe
     · rintro rfl;rcases he with z | z
       · exact nown c b hc z
       · rw[hc]at z;cases z;exact hb rfl
end
structure Un (fs ex:List Addr) (H H':Hp) (h h':Heap):Prop where
 keep:∀b o,h.get? b=some o->H b=none->b∉fs->b∉ex->h'.get? b=some o
 slot:∀b o,h.get? b=some o->H b=none->b∈fs->b∉ex->∃sl,h'.get? b=some { o with slots:=sl }
 free:∀b o,h.get? b=some o->H b=none->b∉ex->H' b=none
 there:∀b o,h.get? b=some o->b∉ex->∃o',h'.get? b=some o'
 tups:∀b xs,H b=some (.tup xs)->H' b=some (.tup xs)
 frzs:∀b o u,H b=some (.frz o u)->H' b=some (.frz o u)
 tbls:∀b ps,H b=some (.tbl ps)->∃more,H' b=some (.tbl (ps++more))
section
variable {fs fs' ex ex':List Addr}{H H1 H2:Hp}{h h1 h2 h':Heap}{a x e:Addr}{o:HO}
theorem Un.any(u:Un fs ex H H1 h h1){b:Addr}{ob:Obj}(q:h.get? b=some ob)(n:H b=none)(hx:b∉ex):∃sl,h1.get? b=some { ob with slots:=sl }:=by
 by_cases hb:b∈fs
 · exact u.slot b ob q n hb hx
 · exact⟨ob.slots,u.keep b ob q n hb hx⟩
theorem Un.kept(k:∀b u,h.get? b=some u->h'.get? b=some u):Un fs ex H H h h' :=
 ⟨fun b ob q _ _ _=>k b ob q,fun b ob q _ _ _=>⟨ob.slots,k b ob q⟩,fun _ _ _ n _=>n,fun b ob q _=>⟨ob,k b ob q⟩,fun _ _ q=>q,fun _ _ _ q=>q,fun _ ps q=>⟨#[],by rw[q];simp⟩⟩
theorem Un.refl:Un fs ex H H h h:=Un.kept fun _ _ q=>q
theorem Un.laid(k:∀b u,h.get? b=some u->h'.get? b=some u)(hp:h.objs.size<=a)(hn:H a=none):Un fs ex H (upd H a o) h h' where
 keep:=fun b u q _ _ _=>k b u q
 slot:=fun b u q _ _ _=>⟨u.slots,k b u q⟩
 free:=fun b u q n _=>by rw[z0 (z5h (z4w (z5f q) hp))];exact n
 there:=fun b u q _=>⟨u,k b u q⟩
 tups:=fun b xs q=>by rw[z0 (qv q hn)];exact q
 frzs:=fun b u xs q=>by rw[z0 (qv q hn)];exact q
 tbls:=fun b ps q=>⟨#[],by rw[z0 (qv q hn),q];simp⟩
theorem Un.write(mu:Mut (H x))(he:e=x\/H e=some (.own x))(k:∀b u,b≠e->h.get? b=some u->h'.get? b=some u)(heo:∃u,h'.get? e=some u):Un fs ex H (upd H x o) h h':=by
 have hx:∀b,H b=none->b≠x:=fun b n z=>by subst z;rw[n]at mu;exact mu
 have hb:∀b,H b=none->b≠e:=fun b n z=>by
   subst z;rcases he with r | r
   · exact hx b n r
   · rw[n]at r;cases r
 have hm:∀b u,H b=some u->¬ Mut (some u)->b≠x:=fun b u q nm z=>by subst z;rw[q]at mu;exact nm mu
 refine⟨fun b u q n _ _=>k b u (hb b n) q,fun b u q n _ _=>⟨u.slots,k b u (hb b n) q⟩,fun b u q n _=>by rw[z0 (hx b n)];exact n,fun b u q _=>?_,
   fun b xs q=>by rw[z0 (hm b _ q fun z=>z)];exact q,fun b u xs q=>by rw[z0 (hm b _ q fun z=>z)];exact q,fun b ps q=>⟨#[],by rw[z0 (hm b _ q fun z=>z),q];simp⟩⟩
 by_cases hbe:b=e
 · subst hbe;exact heo
 · exact⟨u,k b u hbe q⟩
end
def trk(h:Heap)(H:Hp):List Addr:=(List.range h.objs.size).filter fun a=>(H a).isSome
def zqv(h:Heap)(H:Hp):Heap:=PySem.W.hideAll h (trk h H)
theorem zn4(h:Heap)(H:Hp):(zqv h H).objs.size=h.objs.size:=PySem.W.hideAll_size _ _
theorem zfv{h:Heap}{H:Hp}{b:Addr}{o:Obj}(e:h.get? b=some o)(n:H b=none):(zqv h H).get? b=some o :=
 z71 _ e fun hm=>by have q:(H b).isSome=true:=(z9j.mp hm).2;rw[n]at q;simp at q
theorem zuu{h:Heap}{H:Hp}{b:Addr}{o:Obj}(e:(zqv h H).get? b=some o):h.get? b=some o/\H b=none:=by
 have e':h.get? b=some o:=z9s (trk h H) e;refine⟨e',?_⟩;cases q:H b with
 |none=>rfl
 | some x=>
   have hm:b∈trk h H:=z9j.mpr ⟨List.mem_range.mpr (z5f e'),by simp[q]⟩;have z:(zqv h H).get? b=none:=z7u (trk h H) hm;rw[z]at e;cases e
def zvw(g h:Heap)(L:Addr):zAO:=(List.range h.objs.size).filterMap fun a=>if a=L\/(g.get? a).isSome=true then none else (h.get? a).map fun o=>(a,o)
def rest(g h:Heap)(L d:Addr):zAO:=(zvw g h L).filter fun p=>decide (p.1≠d)
structure Mod (K:zFr) (mg:zMg) (base:Heap):Prop where
 kin:K.In base
 glob:base.Ns mainGlobals mg
 blt:∃mb,base.Ns builtinsNs mb/\∀x:Str,x≠"__name__"->mb x=bootBuiltins x
 nolimit:base.NoLimit
structure Cx where
 prog:Program
 w:World
 K:zFr
 mg:zMg
 base:Heap
 A:Around
 N:List Str
 s₀:Shared
 H₀:Hp
 env:Env
 outer:List Env
 stack:List Env
 ex:List Addr
 fn:Str->Bool
 calm:Bool
 pn:zAO
 xe:zVP
def frs(l:List Env):List Addr:=l.filterMap (·.frame)
abbrev Cx.fs(X:Cx):List Addr:=frs X.outer
def Vis(sc:Scope)(x:Str):Prop:=sc.names.lookup x=some .local\/sc.names.lookup x=some .cell\/sc.names.lookup x=some .free
def Loc(sc:Scope)(x:Str):Prop:=sc.names.lookup x=some .local\/sc.names.lookup x=some .cell
def z4p(env:Env)(h:Heap)(m:zMg)(x:Str)(u:Value):Prop :=
 (env.kindOf x=some .local/\m x=some u)\/((env.kindOf x=some .cell\/env.kindOf x=some .free)/\∃c,env.cells.lookup x=some c/\h.IsCell c (some u))
structure Cx.Ok (X:Cx):Prop where
 mod:Mod X.K X.mg X.base
 kind:X.env.scope.kind=.function
 glob:X.env.globals=mainGlobals
 blt:X.env.builtins=builtinsNs
 above:X.s₀.heap.objs.size<=X.env.locals
 inj:∀x y c,X.env.cells.lookup x=some c->X.env.cells.lookup y=some c->x=y
 has:∀x,(X.env.kindOf x=some .cell\/X.env.kindOf x=some .free)->∃c,X.env.cells.lookup x=some c
 cab:∀x c,X.fn x=true->X.env.cells.lookup x=some c->X.s₀.heap.objs.size<=c
 hd:X.calm=true->X.A.handled=none
 frames:X.A.frames=some X.stack
 stk:X.stack=X.outer\/(X.stack=X.env::X.outer/\X.env.frame=some X.env.locals)
 exf:∀b∈X.ex,b≠X.env.locals/\∀x c,X.env.cells.lookup x=some c->c≠b
 bs:∀b o,X.base.get? b=some o->X.s₀.heap.get? b=some o/\X.H₀ b=none
 bsz:X.base.objs.size<=X.s₀.heap.objs.size
 noex:∀b o,X.base.get? b=some o->b∉X.ex
 exfs:∀b∈X.ex,b∉X.fs
 funs:X.s₀.heap.FunFrames X.base X.outer
 frf:∀b∈X.fs,X.H₀ b=none
structure Inv (X:Cx) (pins:zAO) (σ:List (Option V)) (H:Hp) (s:Shared):Prop where
 ok:X.Ok
 os:s.os=X.s₀.os
 bare:AllBare s.gens
 base:Un X.fs X.ex X.H₀ H X.s₀.heap s.heap
 loc:∃m,s.heap.Ns X.env.locals m/\∀(i:Nat) (x:Str) (v:V),X.N[i]? = some x->σ[i]? = some (some v)->Vis X.env.scope x->∃u,RelV v u/\z4p X.env s.heap m x u
 cell:∀x c,X.env.cells.lookup x=some c->∃v,s.heap.IsCell c v
 free:H X.env.locals=none
 freeC:∀x c,X.env.cells.lookup x=some c->H c=none
 pin:∀p∈X.pn++pins,s.heap.get? p.1=some p.2/\H p.1=none/\p.1≠X.env.locals/\p.1∉X.fs/\∀v,p.2.data≠.cell v
 hok:HOk X.prog X.w H s.heap
 len:σ.length=X.N.length
section
variable {X:Cx}{pins:zAO}{σ:List (Option V)}{H H':Hp}{s:Shared}{h':Heap}
theorem Cx.Ok.nofr(ok:X.Ok){b:Addr}{o:Obj}(e:X.base.get? b=some o):b∉X.fs:=fun hb=>by have:=(ok.funs.mem hb).1;rw[e]at this;cases this
theorem Inv.bs(I:Inv X pins σ H s):∀b o,X.base.get? b=some o->s.heap.get? b=some o/\H b=none:=fun b o e=>
 ⟨I.base.keep b o (I.ok.bs b o e).1 (I.ok.bs b o e).2 (I.ok.nofr e) (I.ok.noex b o e),I.base.free b o (I.ok.bs b o e).1 (I.ok.bs b o e).2 (I.ok.noex b o e)⟩
theorem Inv.bk(I:Inv X pins σ H s):∀b o,X.base.get? b=some o->s.heap.get? b=some o:=fun b o e=>(I.bs b o e).1
theorem Inv.mod(I:Inv X pins σ H s):Mod X.K X.mg X.base:=I.ok.mod
theorem Inv.kIn(I:Inv X pins σ H s):X.K.In s.heap:=I.ok.mod.kin.keeps I.bk
theorem Inv.lt(I:Inv X pins σ H s):X.env.locals<s.heap.objs.size:=let⟨_,hn,_⟩:=I.loc;hn.lt
theorem Inv.sz(I:Inv X pins σ H s):X.s₀.heap.objs.size<=s.heap.objs.size:=z5j I.ok.above (z6u I.lt)
theorem Inv.nofs(I:Inv X pins σ H s){a:Addr}(h:s.heap.objs.size<=a):a∉X.fs:=fun hb=>by obtain⟨_,o,ho,_⟩:=I.ok.funs.mem hb;exact absurd (z4w (z5f ho) (z5j I.sz h)) (z61 _)
theorem Inv.cne(I:Inv X pins σ H s):∀x c,X.env.cells.lookup x=some c->c≠X.env.locals:=fun x c e z=>by obtain⟨v,o,ho,hd⟩:=I.cell x c e;obtain⟨m,⟨o',es,ep,ho',hd',_⟩,_⟩:=I.loc;rw[z,ho']at ho;cases ho;rw[hd']at hd;cases hd
theorem Inv.funs(I:Inv X pins σ H s):s.heap.FunFrames X.base X.outer:=by
 have all:∀(l:List Env),(∀b∈frs l,b∈X.fs)->X.s₀.heap.FunFrames X.base l->s.heap.FunFrames X.base l:=by
   intro l
   induction l with
   |nil=>intro _ _;trivial
   | cons env r ih=>
     intro hs hl;obtain⟨hk,⟨L,o,hf,hn,ho,hd⟩,hr⟩:=hl;have hL:L∈X.fs:=hs L (by unfold frs;rw[List.filterMap_cons,hf];exact z5c);obtain⟨sl,e⟩:=I.base.slot L o ho (I.ok.frf L hL) hL fun z=>I.ok.exfs L z hL;exact⟨hk,⟨L,_,hf,hn,e,hd⟩,ih (fun b hb=>hs b (by unfold frs;rw[List.filterMap_cons,hf];exact z40 _ hb)) hr⟩
 exact all X.outer (fun _ hb=>hb) I.ok.funs
theorem Inv.stack(I:Inv X pins σ H s):s.heap.FunFrames X.base X.stack:=by
 rcases I.ok.stk with e | ⟨e,hf⟩
 · rw[e];exact I.funs
 · rw[e];obtain⟨m,hn,_⟩:=I.loc;refine .cons (by rw[I.ok.kind];decide) hf hn ?_ I.funs;exact z7b (z5j I.ok.bsz I.ok.above)
theorem Inv.stkSub(I:Inv X pins σ H s):∀b∈frs X.stack,b∈X.env.locals::X.fs:=fun b hb=>by
 rcases I.ok.stk with e | ⟨e,hf⟩
 · rw[e]at hb;exact z40 _ hb
 · rw[e]at hb;unfold frs at hb;rw[List.filterMap_cons,hf]at hb;exact hb
theorem Inv.stkFree(I:Inv X pins σ H s):∀b∈frs X.stack,H b=none:=fun b hb=>by
 rcases z46.mp (I.stkSub b hb)with e | hb
 · rw[e];exact I.free
 · obtain⟨_,o,ho,_⟩:=I.ok.funs.mem hb;exact I.base.free b o ho (I.ok.frf b hb) fun z=>I.ok.exfs b z hb
theorem Inv.step{g':Array GenState}{t':Nat}{d':Drawn}{ch:List Addr}(I:Inv X pins σ H s)
   (hch:∀b∈ch,(b∈X.ex\/X.s₀.heap.objs.size<=b)/\b≠X.env.locals/\(∀x c,X.env.cells.lookup x=some c->c≠b)/\∀p∈X.pn++pins,p.1≠b)
   (keep:∀b o,b≠X.env.locals->b∉X.fs->b∉ch->s.heap.get? b=some o->H b=none->h'.get? b=some o)
   (slot:∀b o,b≠X.env.locals->b∈X.fs->b∉ch->s.heap.get? b=some o->H b=none->∃sl,h'.get? b=some { o with slots:=sl }) (free:∀b o,b∉ch->s.heap.get? b=some o->H b=none->H' b=none)
   (there:∀b o,b∉ch->s.heap.get? b=some o->∃o',h'.get? b=some o')
   (tups:∀b xs,H b=some (.tup xs)->H' b=some (.tup xs)) (frzs:∀b o u,H b=some (.frz o u)->H' b=some (.frz o u)) (tbls:∀b ps,H b=some (.tbl ps)->∃more,H' b=some (.tbl (ps++more)))
   (ns:∀m,s.heap.Ns X.env.locals m->h'.Ns X.env.locals m) (hok:HOk X.prog X.w H' h') (hg:AllBare g') :
   Inv X pins σ H' { s with heap:=h',gens:=g',drawn:=d',toks:=t' }:=by
 have neL:∀b o,X.s₀.heap.get? b=some o->b≠X.env.locals:=fun b o e=>z5h (z4w (z5f e) I.ok.above);have neC:∀b o,X.s₀.heap.get? b=some o->b∉X.ex->b∉ch:=fun b o e hx hb=>by
   rcases(hch b hb).1 with z | z
   · exact hx z
   · exact absurd (z4w (z5f e) z) (z61 _)
 have cellK:∀x c,X.env.cells.lookup x=some c->∀v,s.heap.IsCell c v->h'.IsCell c v:=fun x c e v ⟨o,ho,hd⟩=>by
   have nch:c∉ch:=fun z=>(hch c z).2.2.1 x c e rfl;by_cases hc:c∈X.fs
   · obtain⟨sl,q⟩:=slot c o (I.cne x c e) hc nch ho (I.freeC x c e);exact⟨_,q,hd⟩
   · exact⟨o,keep c o (I.cne x c e) hc nch ho (I.freeC x c e),hd⟩
 refine⟨I.ok,I.os,hg,⟨fun b o e n hb hx=>?_,fun b o e n hb hx=>?_,fun b o e n hx=>?_,fun b o e hx=>?_,fun b xs e=>tups b xs (I.base.tups b xs e),fun b o xs e=>frzs b o xs (I.base.frzs b o xs e),fun b ps e=>?_⟩,?_,fun x c e=>?_,?_,fun x c e=>?_,fun p hp=>?_,hok,I.len⟩
 · exact keep b o (neL b o e) hb (neC b o e hx) (I.base.keep b o e n hb hx) (I.base.free b o e n hx)
 · obtain⟨sl,e1⟩:=I.base.slot b o e n hb hx;obtain⟨sl',e2⟩:=slot b _ (neL b o e) hb (neC b o e hx) e1 (I.base.free b o e n hx);exact⟨sl',e2⟩
 · obtain⟨o',e1⟩:=I.base.there b o e hx;exact free b o' (neC b o e hx) e1 (I.base.free b o e n hx)
 · obtain⟨o',e1⟩:=I.base.there b o e hx;exact there b o' (neC b o e hx) e1
 · obtain⟨m1,e1⟩:=I.base.tbls b ps e;obtain⟨m2,e2⟩:=tbls b _ e1;exact⟨m1++m2,by rw[e2,Array.append_assoc]⟩
 · obtain⟨m,hn,hl⟩:=I.loc;refine⟨m,ns m hn,fun i x v e1 e2 e3=>?_⟩;obtain⟨u,r,l⟩:=hl i x v e1 e2 e3;refine⟨u,r,?_⟩;rcases l with l | ⟨k,c,e,z⟩
   · exact .inl l
   · exact .inr ⟨k,c,e,cellK x c e _ z⟩
 · obtain⟨v,z⟩:=I.cell x c e;exact⟨v,cellK x c e v z⟩
 · obtain⟨m,⟨o,_,_,ho,_⟩,_⟩:=I.loc;exact free _ o (fun z=>(hch _ z).2.1 rfl) ho I.free
 · obtain⟨v,o,ho,hd⟩:=I.cell x c e;exact free c o (fun z=>(hch c z).2.2.1 x c e rfl) ho (I.freeC x c e)
 · obtain⟨e,n,ne,nf,d⟩:=I.pin p hp;have nch:p.1∉ch:=fun z=>(hch p.1 z).2.2.2 p hp rfl;exact⟨keep p.1 p.2 ne nf nch e n,free p.1 p.2 nch e n,ne,nf,d⟩
theorem Inv.un{t':Nat}(I:Inv X pins σ H s)(u:Un X.fs [] H H' s.heap h')(hok:HOk X.prog X.w H' h'):Inv X pins σ H' { s with heap:=h',toks:=t' }:=by
 obtain⟨m,⟨o,es,ep,ho,r⟩,_⟩:=id I.loc;obtain⟨sl,hL⟩:=u.any ho I.free (by simp);exact I.step (g':=s.gens) (d':=s.drawn) (ch:=[]) (fun _ z=>nomatch z) (fun b o _ hb _ e n=>u.keep b o e n hb (by simp)) (fun b o _ hb _ e n=>u.slot b o e n hb (by simp)) (fun b o _ e n=>u.free b o e n (by simp)) (fun b o _ e=>u.there b o e (by simp)) u.tups u.frzs u.tbls (fun m' hm=>by
   obtain⟨o',es',ep',ho',r'⟩:=hm;rw[ho]at ho';cases ho';exact⟨_,es',ep',hL,r'⟩) hok I.bare
theorem Inv.call{g':Array GenState}{t':Nat}{d':Drawn}{ch:List Addr}(I:Inv X pins σ H s)(u:Un (frs X.stack) ch H H' s.heap h')(hok:HOk X.prog X.w H' h')(hg:AllBare g')
   (hch:∀b∈ch,(b∈X.ex\/X.s₀.heap.objs.size<=b)/\b≠X.env.locals/\(∀x c,X.env.cells.lookup x=some c->c≠b)/\∀p∈X.pn++pins,p.1≠b) :
   Inv X pins σ H' { s with heap:=h',gens:=g',drawn:=d',toks:=t' }:=by
 obtain⟨m,⟨o,es,ep,ho,r⟩,_⟩:=id I.loc;obtain⟨sl,hL⟩:=u.any ho I.free fun z=>(hch _ z).2.1 rfl;exact I.step (ch:=ch) hch (fun b o hL hb hc e n=>u.keep b o e n (fun z=>(z46.mp (I.stkSub b z)).elim hL hb) hc) (fun b o _ _ hc e n=>u.any e n hc) (fun b o hc e n=>u.free b o e n hc) (fun b o hc e=>u.there b o e hc) u.tups u.frzs u.tbls (fun m' hm=>by
   obtain⟨o',es',ep',ho',r'⟩:=hm;rw[ho]at ho';cases ho';exact⟨_,es',ep',hL,r'⟩) hok hg
theorem Inv.turned{t':Nat}{it:Addr}(I:Inv X pins σ H s)(k:∀b o,b≠it->s.heap.get? b=some o->h'.get? b=some o)(hn:H it=none)(hL:it≠X.env.locals)
   (h1:it∈X.ex\/X.s₀.heap.objs.size<=it) (h2:∀x c,X.env.cells.lookup x=some c->c≠it) (h3:∀p∈X.pn++pins,p.1≠it):Inv X pins σ H { s with heap:=h',toks:=t' }:=by
 have nit:∀b u,H b=some u->b≠it:=fun b u e z=>by rw[z,hn]at e;cases e
 refine I.step (g':=s.gens) (d':=s.drawn) (ch:=[it]) (fun b hb=>?_) (fun b o _ _ hc e _=>k b o (fun z=>hc (by simp[z])) e) (fun b o _ _ hc e _=>⟨o.slots,k b o (fun z=>hc (by simp[z])) e⟩) (fun _ _ _ _ n=>n)
   (fun b o hc e=>⟨o,k b o (fun z=>hc (by simp[z])) e⟩) (fun _ _ e=>e) (fun _ _ _ e=>e) (fun b ps e=>⟨#[],by rw[e];simp⟩) (fun m hm=>?_) (fun b u e=>?_) I.bare
 · have e:b=it:=by simpa using hb
   subst e;exact⟨h1,hL,h2,h3⟩
 · obtain⟨o,es,ep,ho,r⟩:=hm;exact⟨o,es,ep,k _ o (z7e hL) ho,r⟩
 · refine(I.hok b u e).stay (fun c v hc q=>k c v ?_ q) (fun _ q=>q) fun _ _ q=>q;rcases hc with z | z
   · rw[z];exact nit b u e
   · exact nit c _ z
theorem Inv.tok(I:Inv X pins σ H s)(t:Nat):Inv X pins σ H { s with toks:=t }:=I.un (h':=s.heap) (t':=t) Un.refl I.hok
theorem Inv.kept{t':Nat}(I:Inv X pins σ H s)(k:∀b u,s.heap.get? b=some u->h'.get? b=some u):Inv X pins σ H { s with heap:=h',toks:=t' }:=I.un (Un.kept k) (I.hok.kept k)
theorem Inv.laid{a:Addr}{o:HO}{t':Nat}(I:Inv X pins σ H s)(k:∀b u,s.heap.get? b=some u->h'.get? b=some u)(hp:s.heap.objs.size<=a)(new:ObjOk X.prog X.w (upd H a o) h' a o) :
   Inv X pins σ (upd H a o) { s with heap:=h',toks:=t' }:=I.un (Un.laid k hp (I.hok.fresh hp)) (I.hok.laid k hp new)
theorem Inv.write{x e:Addr}{o:HO}{t':Nat}(I:Inv X pins σ H s)(mu:Mut (H x))(he:e=x\/H e=some (.own x))(k:∀b u,b≠e->s.heap.get? b=some u->h'.get? b=some u)(heo:∃u,h'.get? e=some u)
   (new:ObjOk X.prog X.w (upd H x o) h' x o):Inv X pins σ (upd H x o) { s with heap:=h',toks:=t' }:=I.un (Un.write mu he k heo) (I.hok.write mu he k heo new)
theorem Inv.pins_of{pins':zAO}(I:Inv X pins σ H s)(h:∀p∈pins',s.heap.get? p.1=some p.2/\H p.1=none/\p.1≠X.env.locals/\p.1∉X.fs/\∀v,p.2.data≠.cell v):Inv X pins' σ H s :=
 ⟨I.ok,I.os,I.bare,I.base,I.loc,I.cell,I.free,I.freeC,fun p hp=>(z5k.mp hp).elim (fun z=>I.pin p (z6a _ z)) (h p),I.hok,I.len⟩
theorem zfl{N:List Str}(hN:N.Nodup){i j:Nat}{x:Str}(a:N[i]? = some x)(b:N[j]? = some x):i=j:=by obtain⟨h1,e1⟩:=z42.mp a;obtain⟨h2,e2⟩:=z42.mp b;exact(z98 hN).mp (e1.trans e2.symm)
theorem zgn{M:Model}{A:Around}{E:zVP}{i:Nat}{x:Str}{v:V}{u:Value}{Q:Unit->Shared->Prop}(I:Inv X pins σ H s)(hN:X.N.Nodup)(hi:X.N[i]? = some x)(hx:Loc X.env.scope x)(r:RelV v u)
   (h:∀s',Inv X pins (σ.set i (some v)) H s'->(∃a,Heap.SameBut a s.heap s'.heap/\(a=X.env.locals\/X.env.cells.lookup x=some a))->Q () s') (hf:X.fn x=true\/X.env.scope.names.lookup x=some .local:=by first | exact .inl rfl | exact .inr rfl | assumption):wpAny M A (storeName X.env x u) Q E s:=by
 obtain⟨m,hn,hl⟩:=id I.loc;have hcls:(X.env.scope.kind==.class||(X.env.scope.kind==.module&&X.env.locals != X.env.globals))=false:=by rw[I.ok.kind];rfl
 have hiσ:i<σ.length:=by rw[I.len];exact(z42.mp hi).1
 have cne:=I.cne;have tracked:∀{a:Addr}{h':Heap},(∃o,s.heap.get? a=some o/\H a=none)->Heap.SameBut a s.heap h'->HOk X.prog X.w H h':=fun {a h'} ha hs b ob e=>by
   obtain⟨_,_,hfree⟩:=ha;refine(I.hok b ob e).stay (fun c w' hc q=>(hs.2 c ?_).trans q) (fun _ q=>q) fun _ _ q=>q;rintro rfl;rcases hc with rfl | hc
   · rw[hfree]at e;cases e
   · rw[hfree]at hc;cases hc
 rcases hx with hk | hk
 · refine wpAny_storeName_local hk hn (fun h' hn' hs=>?_) hcls;obtain⟨oL,_,_,hoL,_⟩:=id hn;refine h _ ⟨I.ok,I.os,I.bare,⟨fun b o e n hb hx=>?_,fun b o e n hb hx=>?_,I.base.free,fun b o e hx=>?_,I.base.tups,I.base.frzs,I.base.tbls⟩,⟨_,hn',fun j y v' e1 e2 e3=>?_⟩,fun y c e=>?_,I.free,I.freeC,fun p hp=>?_,tracked ⟨oL,hoL,I.free⟩ hs,by simpa using I.len⟩ ⟨_,hs,.inl rfl⟩
   · exact(hs.2 b (z5h (z4w (z5f e) I.ok.above))).trans (I.base.keep b o e n hb hx)
   · obtain⟨sl,e1⟩:=I.base.slot b o e n hb hx;exact⟨sl,(hs.2 b (z5h (z4w (z5f e) I.ok.above))).trans e1⟩
   · obtain⟨o',e1⟩:=I.base.there b o e hx;exact⟨o',(hs.2 b (z5h (z4w (z5f e) I.ok.above))).trans e1⟩
   · by_cases hj:j=i
     · subst hj;rw[hi]at e1;cases e1;rw[z51 hiσ]at e2;cases e2;exact⟨u,r,.inl ⟨hk,by simp⟩⟩
     · rw[z6j (z7e hj)]at e2;obtain⟨u',r',q⟩:=hl j y v' e1 e2 e3;refine⟨u',r',?_⟩;rcases q with⟨k,e⟩ | ⟨k,c,e,z⟩
       · refine .inl ⟨k,?_⟩;have:y≠x:=fun e=>hj (zfl hN e1 (e▸hi));simp[this,e]
       · exact .inr ⟨k,c,e,z.sameBut hs (cne y c e)⟩
   · obtain⟨w',z⟩:=I.cell y c e;exact⟨w',z.sameBut hs (cne y c e)⟩
   · obtain⟨e,n,ne,nf,d⟩:=I.pin p hp;exact⟨(hs.2 p.1 ne).trans e,n,ne,nf,d⟩
 · have hfn:X.fn x=true:=by
     rcases hf with z | z
     · exact z
     · rw[z]at hk;cases hk
   obtain⟨c,hc⟩:=I.ok.has x (.inl hk);obtain⟨w',z⟩:=I.cell x c hc;refine wpAny_storeName_cell I.ok.kind hk hc z (fun h' hc' hs=>?_);obtain⟨oc,hoc,hocd⟩:=id z;refine h { s with heap:=h' } ⟨I.ok,I.os,I.bare,⟨fun b o e n hb hx=>?_,fun b o e n hb hx=>?_,I.base.free,fun b o e hx=>?_,I.base.tups,I.base.frzs,I.base.tbls⟩,⟨m,hn.sameBut hs (z7e (cne x c hc)),fun j y v' e1 e2 e3=>?_⟩,fun y c' e=>?_,I.free,I.freeC,fun p hp=>?_,tracked ⟨oc,hoc,I.freeC x c hc⟩ hs,by simpa using I.len⟩ ⟨c,hs,.inr hc⟩
   · exact(hs.2 b (z5h (z4w (z5f e) (I.ok.cab x c hfn hc)))).trans (I.base.keep b o e n hb hx)
   · obtain⟨sl,e1⟩:=I.base.slot b o e n hb hx;exact⟨sl,(hs.2 b (z5h (z4w (z5f e) (I.ok.cab x c hfn hc)))).trans e1⟩
   · obtain⟨o',e1⟩:=I.base.there b o e hx;exact⟨o',(hs.2 b (z5h (z4w (z5f e) (I.ok.cab x c hfn hc)))).trans e1⟩
   · by_cases hj:j=i
     · subst hj;rw[hi]at e1;cases e1;rw[z51 hiσ]at e2;cases e2;exact⟨u,r,.inr ⟨.inl hk,c,hc,hc'⟩⟩
     · rw[z6j (z7e hj)]at e2;obtain⟨u',r',q⟩:=hl j y v' e1 e2 e3;refine⟨u',r',?_⟩;rcases q with q | ⟨k,c',e,z'⟩
       · exact .inl q
       · refine .inr ⟨k,c',e,z'.sameBut hs ?_⟩;rintro rfl;exact hj (zfl hN e1 (I.ok.inj _ _ _ e hc▸hi))
   · by_cases hcc:c'=c
     · subst hcc;exact⟨_,hc'⟩
     · obtain⟨w2,z2⟩:=I.cell y c' e;exact⟨w2,z2.sameBut hs hcc⟩
   · obtain⟨e,n,ne,nf,d⟩:=I.pin p hp;refine⟨(hs.2 p.1 ?_).trans e,n,ne,nf,d⟩;intro q;rw[q,hoc]at e;have q':oc=p.2:=z53 e;exact d w' (by rw[<-q'];exact hocd)
theorem zcv{M:Model}{A:Around}{E:zVP}{i:Nat}{x:Str}{v:V}{u:Value}{Q:Unit->Shared->Prop}(I:Inv X pins σ H s)(hN:X.N.Nodup)(hi:X.N[i]? = some x)(hx:Loc X.env.scope x)(r:RelV v u)
   (h:∀s',Inv X pins (σ.set i (some v)) H s'->Q () s') (hf:X.fn x=true\/X.env.scope.names.lookup x=some .local:=by first | exact .inl rfl | exact .inr rfl | assumption):wpAny M A (storeName X.env x u) Q E s :=
 zgn I hN hi hx r (fun s' I' _=>h s' I') hf
theorem Inv.call'{s':Shared}{ch:List Addr}(I:Inv X pins σ H s)(ho:s'.os=s.os)(u:Un (frs X.stack) ch H H' s.heap s'.heap)(hok:HOk X.prog X.w H' s'.heap)(hg:AllBare s'.gens)
   (hch:∀b∈ch,(b∈X.ex\/X.s₀.heap.objs.size<=b)/\b≠X.env.locals/\(∀x c,X.env.cells.lookup x=some c->c≠b)/\∀p∈X.pn++pins,p.1≠b):Inv X pins σ H' s':=by
 obtain⟨h',g',d',t',o'⟩:=s';have e:o'=s.os:=ho;subst e;exact I.call (g':=g') (t':=t') (d':=d') u hok hg hch
end
abbrev XK:=Value->Option Addr->Hp->Prop
abbrev St:=List (Option V)
abbrev VK:=V->Hp->Prop
abbrev TE:=St->Hp->VK->Prop
abbrev TT:=St->Hp->(Bool->Hp->Prop)->Prop
abbrev TA:=St->Hp->(List V->Hp->Prop)->Prop
structure Ends where
 nx:St->Hp->Prop
 rt:VK
 bk:St->Hp->Prop:=fun _ _=>False
 ct:St->Hp->Prop:=fun _ _=>False
abbrev TS:=Ends->St->Hp->Prop
def EP(X:Cx)(pins:zAO)(σ:St)(Q:VK)(u:Value)(s':Shared):Prop:=∃v H',Inv X pins σ H' s'/\RelV v u/\Q v H'
def TP(X:Cx)(pins:zAO)(σ:St)(Q:Bool->Hp->Prop)(b:Bool)(s':Shared):Prop:=∃H',Inv X pins σ H' s'/\Q b H'
def AP(X:Cx)(pins:zAO)(σ:St)(Q:List V->Hp->Prop)(us:List Value)(s':Shared):Prop:=∃vs H',Inv X pins σ H' s'/\Vals vs us/\Q vs H'
def SP(X:Cx)(pins:zAO)(D:Ends)(f:Flow)(s':Shared):Prop :=
 match f with
 | .next=>∃σ' H',Inv X pins σ' H' s'/\D.nx σ' H'
 | .brk=>∃σ' H',Inv X pins σ' H' s'/\D.bk σ' H'
 | .cont=>∃σ' H',Inv X pins σ' H' s'/\D.ct σ' H'
 | .ret u=>∃v σ' H',Inv X pins σ' H' s'/\RelV v u/\D.rt v H'
def PE(X:Cx)(e:Expr)(t:TE):Prop :=
 ∀(pins:zAO) (s:Shared) (σ:St) (H:Hp) (Q:VK),Inv X pins σ H s->t σ H Q->wpAny (model X.prog X.w) X.A (eval e X.env) (EP X pins σ Q) X.xe s
def PT(X:Cx)(e:Expr)(t:TT):Prop :=
 ∀(pins:zAO) (s:Shared) (σ:St) (H:Hp) (Q:Bool->Hp->Prop),Inv X pins σ H s->t σ H Q->wpAny (model X.prog X.w) X.A (isTrue e X.env (eval e X.env)) (TP X pins σ Q) X.xe s
def PW(X:Cx)(e:Expr)(t:TT):Prop :=
 ∀(whole:Sem Value) (pins:zAO) (s:Shared) (σ:St) (H:Hp) (Q:Bool->Hp->Prop),Inv X pins σ H s->t σ H Q->wpAny (model X.prog X.w) X.A (isTrue e X.env whole) (TP X pins σ Q) X.xe s
theorem PW.pt{X:Cx}{e:Expr}{t:TT}(h:PW X e t):PT X e t:=h _
def PA(X:Cx)(es:List Expr)(t:TA):Prop :=
 ∀(pos:Pos) (pins:zAO) (s:Shared) (σ:St) (H:Hp) (Q:List V->Hp->Prop),Inv X pins σ H s->t σ H Q->wpAny (model X.prog X.w) X.A (spliced (backTo pos (starEach es X.env))) (AP X pins σ Q) X.xe s
def PS(X:Cx)(st:Stmt)(t:TS):Prop :=
 ∀(pins:zAO) (s:Shared) (σ:St) (H:Hp) (D:Ends),Inv X pins σ H s->t D σ H->wpAny (model X.prog X.w) X.A (exec st X.env) (SP X pins D) X.xe s
def PSs(X:Cx)(st:List Stmt)(t:TS):Prop :=
 ∀(pins:zAO) (s:Shared) (σ:St) (H:Hp) (D:Ends),Inv X pins σ H s->t D σ H->wpAny (model X.prog X.w) X.A (execs st X.env) (SP X pins D) X.xe s
theorem thn{α:Type}{t:Sem α}{Q Q':α->Shared->Prop}{M:Model}{A:Around}{E:zVP}{s:Shared}(h:wpAny M A t Q E s)(hQ:∀a s,Q a s->Q' a s):wpAny M A t Q' E s:=z69 h hQ fun _ _ x=>x
section
variable {X:Cx}
def z3k(i:Nat):TE:=fun σ H Q=>∃v,σ[i]? = some (some v)/\Q v H
def tC(v:V):TE:=fun _ H Q=>Q v H
theorem zxo{i:Nat}{x:Str}{pos:Pos}(hN:X.N[i]? = some x)(hv:Vis X.env.scope x)(hd:(x==("__debug__":Str))=false:=by decide)(hcd:(x==("__classdict__":Str))=false:=by decide):PE X (.Name x pos) (z3k i):=by
 intro pins s σ H Q I h;obtain⟨v,e,h⟩:=h;obtain⟨m,hn,hl⟩:=I.loc;obtain⟨u,r,l⟩:=hl i x v hN e hv;have fin:EP X pins σ Q u s:=⟨v,H,I,r,h⟩
 rcases l with⟨hk,hm⟩ | ⟨hk,c,hc,hcell⟩
 · exact wpAny_Name (wpAny_loadName_local I.ok.kind hk hn hm fin) hd
 · rcases hk with hk | hk
   · exact wpAny_Name (wpAny_loadName_cell I.ok.kind hk hc hcell fin) hd
   · exact wpAny_Name (wpAny_loadName_free I.ok.kind hk hc hcell fin hcd) hd
theorem zxu{i j pos}:PE X (.Constant (.int i) j pos) (tC (.int i)):=fun _ _ _ H _ I h=>wpAny_Constant_int ⟨.int i,H,I.tok _,⟨_,rfl⟩,h⟩
theorem z1r{b j pos}:PE X (.Constant (.bool b) j pos) (tC (.bl b)):=fun _ _ _ H _ I h=>Constant_bool ⟨.bl b,H,I,rfl,h⟩
theorem zxt{j pos}:PE X (.Constant .none j pos) (tC .non):=fun _ _ _ H _ I h=>Constant_none ⟨.non,H,I,rfl,h⟩
theorem zxq{x j pos}:PE X (.Constant (.str x) j pos) (tC (.str x)):=fun _ _ _ H _ I h=>Calls.Constant_str ⟨.str x,H,I.tok _,⟨_,rfl⟩,h⟩
def Gl(X:Cx)(x:Str):Prop:=X.env.kindOf x=some .globalImplicit
theorem zas{E:zVP}{pins:zAO}{s:Shared}{σ:St}{H:Hp}{x:Str}{u:Value}{pos:Pos}{Q:zVP}(I:Inv X pins σ H s)(hg:Gl X x)(hm:X.mg x=some u)(h:Q u s)
   (hd:(x==("__debug__":Str))=false:=by decide):wpAny (model X.prog X.w) X.A (eval (.Name x pos) X.env) Q E s :=
 Calls.Name_function_global I.ok.kind hg (Calls.loadGlobal_global (by rw[I.ok.glob];exact I.mod.glob.keeps I.bk) hm h) hd
theorem zdk{E:zVP}{pins:zAO}{s:Shared}{σ:St}{H:Hp}{x:Str}{u:Value}{pos:Pos}{Q:zVP}(I:Inv X pins σ H s)(hg:Gl X x)(hm:X.mg x=none)(hv:bootBuiltins x=some u)(h:Q u s)
   (hn:x≠"__name__":=by decide) (hd:(x==("__debug__":Str))=false:=by decide):wpAny (model X.prog X.w) X.A (eval (.Name x pos) X.env) Q E s:=by
 obtain⟨mb,h1,h2⟩:=I.mod.blt;exact Calls.Name_function_global I.ok.kind hg (Calls.loadGlobal_builtin (by rw[I.ok.glob];exact I.mod.glob.keeps I.bk) hm (by rw[I.ok.blt];exact h1.keeps I.bk) ((h2 x hn).trans hv) h) hd
theorem znf{x:Str}{v:V}{u:Value}{pos:Pos}(hg:Gl X x)(hm:X.mg x=some u)(r:RelV v u)(hd:(x==("__debug__":Str))=false:=by decide):PE X (.Name x pos) (tC v) :=
 fun _ _ _ H _ I h=>zas I hg hm ⟨v,H,I,r,h⟩ hd
theorem zuq{x:Str}{v:V}{u:Value}{pos:Pos}(hg:Gl X x)(hm:X.mg x=none)(hv:bootBuiltins x=some u)(r:RelV v u)(hn:x≠"__name__":=by decide)(hd:(x==("__debug__":Str))=false:=by decide):PE X (.Name x pos) (tC v) :=
 fun _ _ _ H _ I h=>zdk I hg hm hv ⟨v,H,I,r,h⟩ hn hd
variable {a b:Expr}{ta tb:TE}{pos:Pos}
def tB(t:TE):TT:=fun σ H Q=>t σ H fun x H1=>∃c,x=.bl c/\Q c H1
theorem zxg{e:Expr}{t:TE}(h:PE X e t)(he:∀whole,isTrue e X.env whole=(do let v <-whole;standAt e.pos;holding [v] (truthy v)):=by intro _;rfl):PT X e (tB t):=by intro pins s σ H Q I hw;refine isTrue_plain (thn (h pins s σ H _ I hw) fun v s1 ⟨x,H1,I1,r1,q1⟩=>?_) (he _);obtain⟨d,rfl,q⟩:=q1;cases r1;exact z6c ⟨H1,I1,q⟩
variable {tA tB':TT}{rest:List Expr}
def z3x(t u:TT):TT:=fun σ H Q=>t σ H fun c H1=>if c=true then u σ H1 Q else Q false H1
def tOr(t u:TT):TT:=fun σ H Q=>t σ H fun c H1=>if c=true then Q true H1 else u σ H1 Q
def z3p(t:TT):TT:=fun σ H Q=>t σ H fun c H1=>Q (!c) H1
theorem zug(ha:PT X a tA):PW X (.BoolOp .And [a] pos) tA:=by
 intro wh pins s σ H Q I h;refine isTrue_and (thn (ha pins s σ H Q I h) fun c s1 e=>?_);cases c with
 |true=>exact isTrue_and_nil e
 |false=>exact e
theorem zxd(ha:PT X a tA):PW X (.BoolOp .Or [a] pos) tA:=by
 intro wh pins s σ H Q I h;refine isTrue_or (thn (ha pins s σ H Q I h) fun c s1 e=>?_);cases c with
 |false=>exact isTrue_or_nil e
 |true=>exact e
theorem zxf(ha:PT X a tA)(hb:PW X (.BoolOp .And (b::rest) pos) tB'):PW X (.BoolOp .And (a::b::rest) pos) (z3x tA tB'):=by
 intro wh pins s σ H Q I h;refine isTrue_and (thn (ha pins s σ H _ I h) fun c s1 ⟨H1,I1,q1⟩=>?_);cases c with
 |true=>exact hb wh pins s1 σ H1 Q I1 q1
 |false=>exact⟨H1,I1,q1⟩
theorem z1i(ha:PT X a tA)(hb:PW X (.BoolOp .Or (b::rest) pos) tB'):PW X (.BoolOp .Or (a::b::rest) pos) (tOr tA tB'):=by
 intro wh pins s σ H Q I h;refine isTrue_or (thn (ha pins s σ H _ I h) fun c s1 ⟨H1,I1,q1⟩=>?_);cases c with
 |true=>exact⟨H1,I1,q1⟩
 |false=>exact hb wh pins s1 σ H1 Q I1 q1
theorem zxh(ha:PT X a tA):PT X (.UnaryOp .Not a pos) (z3p tA):=by intro pins s σ H Q I h;exact isTrue_not (ha pins s σ H (fun c H1=>Q (!c) H1) I h)
def z1f(ta tb:TE):TE:=fun σ H Q=>ta σ H fun x H1=>∃c,x=.bl c/\if c=true then tb σ H1 Q else Q (.bl false) H1
def z09(ta:TE):TE:=fun σ H Q=>ta σ H fun x H1=>∃c,x=.bl c/\Q (.bl (!c)) H1
theorem zxr{op}{t:TE}(h:PE X a t):PE X (.BoolOp op [a] pos) t:=fun pins s σ H Q I hw=>BoolOp_one (h pins s σ H Q I hw)
theorem zxx(ha:PE X a ta)(hb:PE X (.BoolOp .And (b::rest) pos) tb):PE X (.BoolOp .And (a::b::rest) pos) (z1f ta tb):=by
 intro pins s σ H Q I h;refine BoolOp_and (thn (ha pins s σ H _ I h) fun v s1 ⟨x,H1,I1,r1,q1⟩=>?_);obtain⟨c,rfl,q1⟩:=q1;cases r1;refine z6c ?_;cases c with
 |true=>exact hb pins s1 σ H1 Q I1 q1
 |false=>exact⟨.bl false,H1,I1,rfl,q1⟩
theorem zxs(ha:PE X a ta):PE X (.UnaryOp .Not a pos) (z09 ta):=by intro pins s σ H Q I h;refine UnaryOp_ (thn (ha pins s σ H _ I h) fun v s1 ⟨x,H1,I1,r1,q1⟩=>?_);obtain⟨c,rfl,q1⟩:=q1;cases r1;exact not_of (z6c ⟨.bl (!c),H1,I1,rfl,q1⟩)
end
def SqL(K:zFr)(H:Hp)(a:Addr)(xs:List V):Prop :=
 Rd H a (.lst xs) \/
   ∃(o:Obj) (its:Array Value) (n:Nat),K.lookup a=some o/\o.cls=.type "list"/\o.dict=none/\o.data=.seq its n/\its.size<=sizeLine/\Vals xs its.toList
def SqT(K:zFr)(H:Hp)(a:Addr)(xs:List V):Prop :=
 Rd H a (.tup xs) \/
   ∃(o:Obj) (its:Array Value) (n:Nat),K.lookup a=some o/\o.cls=.type "tuple"/\o.data=.seq its n/\its.size<=sizeLine/\Vals xs its.toList
def z4o:Value->Option V
 | .none=>some .non
 | .bool b=>some (.bl b)
 | .int i _=>some (.int i)
 | .str x _=>some (.str x)
 | .bytes b _=>some (.byt b)
 | .float b _=>some (.flt b)
 | .ref a=>some (.ref a)
 | .type n=>some (.ty n)
 |_=>none
theorem RelV.abs{x:V}{u:Value}(r:RelV x u):z4o u=some x:=by
 cases x with
 |non=>cases r;rfl
 |bl _=>cases r;rfl
 |int _=>obtain⟨t,rfl⟩:=r;rfl
 |str _=>obtain⟨t,rfl⟩:=r;rfl
 |byt _=>obtain⟨t,rfl⟩:=r;rfl
 |flt _=>obtain⟨t,rfl⟩:=r;rfl
 |ref _=>cases r;rfl
 |ty _=>cases r;rfl
theorem RelV.inj{x y:V}{u:Value}(r:RelV x u)(q:RelV y u):x=y:=z53 (r.abs.symm.trans q.abs)
theorem Vals.inj:∀{xs ys:List V}{us:List Value},Vals xs us->Vals ys us->xs=ys
 |_,_,_,.nil,.nil=>rfl
 |_,_,_,.cons r t,.cons r' t'=>by rw[r.inj r',Vals.inj t t']
section
variable {X:Cx}{pins:zAO}{σ:St}{H:Hp}{s:Shared}{a:Addr}{xs ys:List V}
theorem SqL.of{K:zFr}(h:H a=some (.lst xs)):SqL K H a xs:=.inl (.inl h)
theorem Inv.list(I:Inv X pins σ H s)(h:SqL X.K H a xs):∃its:List Value,Vals xs its/\PlainL s.heap a its.toArray/\xs.length<=sizeLine:=by
 rcases h with h | ⟨o,its,n,hk,hc,hd,hs,hz,r⟩
 · obtain⟨z,its,n,r,e⟩:=h.ok I.hok;exact⟨its,r,⟨_,n,e,rfl,rfl,rfl⟩,z⟩
 · refine⟨its.toList,r,⟨o,n,I.kIn a o hk,hc,hd,by simpa using hs⟩,?_⟩;have e:=r.length;simp only[Array.length_toList]at e;omega
theorem Inv.tuple(I:Inv X pins σ H s)(h:SqT X.K H a xs):∃its:List Value,Vals xs its/\IsTup s.heap a its.toArray/\xs.length<=sizeLine:=by
 rcases h with h | ⟨o,its,n,hk,hc,hs,hz,r⟩
 · obtain⟨z,its,r,p⟩:=h.ok I.hok;exact⟨its,r,p,z⟩
 · refine⟨its.toList,r,⟨o,I.kIn a o hk,hc,n,by simpa using hs⟩,?_⟩;have e:=r.length;simp only[Array.length_toList]at e;omega
theorem Inv.list_inj(I:Inv X pins σ H s)(h:SqL X.K H a xs)(h':SqL X.K H a ys):xs=ys:=by
 obtain⟨its,r,⟨o,n,e,_,_,d⟩,_⟩:=I.list h;obtain⟨its',r',⟨o',n',e',_,_,d'⟩,_⟩:=I.list h';rw[e]at e';cases e';rw[d]at d';injection d' with d1 _;have:its=its':=by simpa using z64 Array.toList d1
 subst this;exact r.inj r'
theorem Inv.tuple_inj(I:Inv X pins σ H s)(h:SqT X.K H a xs)(h':SqT X.K H a ys):xs=ys:=by
 obtain⟨its,r,⟨o,e,_,n,d⟩,_⟩:=I.tuple h;obtain⟨its',r',⟨o',e',_,n',d'⟩,_⟩:=I.tuple h';rw[e]at e';cases e';rw[d]at d';injection d' with d1 _;have:its=its':=by simpa using z64 Array.toList d1
 subst this;exact r.inj r'
end
abbrev Cx.wish(X:Cx)(E:zVP):Cx:={ X with xe:=E }
abbrev Cx.nox(X:Cx):Cx:=X.wish fun _ _=>False
theorem Cx.Ok.wish{X:Cx}(ok:X.Ok)(E:zVP):(X.wish E).Ok :=
 ⟨ok.mod,ok.kind,ok.glob,ok.blt,ok.above,ok.inj,ok.has,ok.cab,ok.hd,ok.frames,ok.stk,ok.exf,ok.bs,ok.bsz,ok.noex,ok.exfs,ok.funs,ok.frf⟩
theorem Cx.Ok.unwish{X:Cx}{E:zVP}(ok:(X.wish E).Ok):X.Ok :=
 ⟨ok.mod,ok.kind,ok.glob,ok.blt,ok.above,ok.inj,ok.has,ok.cab,ok.hd,ok.frames,ok.stk,ok.exf,ok.bs,ok.bsz,ok.noex,ok.exfs,ok.funs,ok.frf⟩
section
variable {X:Cx}{pins:zAO}{σ:St}{H:Hp}{s:Shared}{E:zVP}
theorem Inv.wish(I:Inv X pins σ H s)(E:zVP):Inv (X.wish E) pins σ H s:=⟨I.ok.wish E,I.os,I.bare,I.base,I.loc,I.cell,I.free,I.freeC,I.pin,I.hok,I.len⟩
theorem Inv.unwish(I:Inv (X.wish E) pins σ H s):Inv X pins σ H s:=⟨I.ok.unwish,I.os,I.bare,I.base,I.loc,I.cell,I.free,I.freeC,I.pin,I.hok,I.len⟩
theorem SP.unwish{D:Ends}{f:Flow}{s':Shared}(h:SP (X.wish E) pins D f s'):SP X pins D f s':=by
 cases f with
 |next=>obtain⟨σ',H',I,q⟩:=h;exact⟨σ',H',I.unwish,q⟩
 |brk=>obtain⟨σ',H',I,q⟩:=h;exact⟨σ',H',I.unwish,q⟩
 |cont=>obtain⟨σ',H',I,q⟩:=h;exact⟨σ',H',I.unwish,q⟩
 |ret u=>obtain⟨v,σ',H',I,r,q⟩:=h;exact⟨v,σ',H',I.unwish,r,q⟩
theorem PE.nox{e:Expr}{t:TE}(h:PE X.nox e t):PE X e t:=fun pins s σ H Q I hw=>
 z69 (h pins s σ H Q (I.wish _) hw) (fun _ _ ⟨v,H',I',r,q⟩=>⟨v,H',I'.unwish,r,q⟩) fun _ _ z=>False.elim z
theorem PSs.nox{st:List Stmt}{t:TS}(h:PSs X.nox st t):PSs X st t:=fun pins s σ H D I hw=>
 z69 (h pins s σ H D (I.wish _) hw) (fun _ _ q=>q.unwish) fun _ _ z=>False.elim z
end
section
variable {X:Cx}{st:Stmt}{rest:List Stmt}{t u:TS}{e:Expr}{te:TE}{pos:Pos}
def z1a:TS:=fun D σ H=>D.nx σ H
def z3m(t u:TS):TS:=fun D σ H=>t { D with nx:=u D } σ H
theorem zuj:PSs X [] z1a:=fun _ _ σ H _ I h=>z9k ⟨σ,H,I,h⟩
theorem zp9(h1:PS X st t)(h2:PSs X rest u):PSs X (st::rest) (z3m t u):=by
 intro pins s σ H D I h;refine z7p (thn (h1 pins s σ H { D with nx:=u D } I h) fun f s1 q=>?_);cases f with
 | next=>
   obtain⟨σ',H',I',q⟩:=q;exact h2 pins s1 σ' H' D I' q
 |ret v=>exact q
 |brk=>exact q
 |cont=>exact q
theorem zui(h1:PS X st t):PSs X [st] t:=by
 intro pins s σ H D I h;refine z7p (thn (h1 pins s σ H D I h) fun f s1 q=>?_);cases f with
 |next=>exact z9k q
 |ret v=>exact q
 |brk=>exact q
 |cont=>exact q
theorem Inv.quiet{pins:zAO}{σ:St}{H:Hp}{s:Shared}(I:Inv X pins σ H s):interactive X.env=false:=by simp[interactive,I.ok.kind]
def z1d(te:TE):TS:=fun D σ H=>te σ H fun _ H1=>D.nx σ H1
theorem zna(he:PE X e te)(hs:swapsWith e none pos.line X.env=pure false:=by rfl):PS X (.Expr e pos) (z1d te):=by intro pins s σ H D I h;exact wpAny_Expr_any (thn (he pins s σ H _ I h) fun v s1 ⟨x,H1,I1,r1,q1⟩=>⟨σ,H1,I1,q1⟩) I.quiet hs
def z3o(te:TE):TS:=fun D σ H=>te σ H D.rt
theorem zxj(he:PE X e te):PS X (.Return (some e) pos) (z3o te):=by intro pins s σ H D I h;exact z92 (thn (he pins s σ H _ I h) fun v s1 ⟨x,H1,I1,r1,q1⟩=>⟨x,σ,H1,I1,r1,q1⟩)
def z07:TS:=fun D _ H=>D.rt .non H
theorem zuk:PS X (.Return none pos) z07:=fun _ _ σ H _ I h=>wpAny_Return_none ⟨.non,σ,H,I,rfl,h⟩
def z3r(c:TT)(t u:TS):TS:=fun D σ H=>c σ H fun b H1=>if b=true then t D σ H1 else u D σ H1
theorem z1j{c:Expr}{a b:List Stmt}{tc:TT}(hc:PT X c tc)(ha:PSs X a t)(hb:PSs X b u):PS X (.If c a b pos) (z3r tc t u):=by
 intro pins s σ H D I h;refine wpAny_If (thn (hc pins s σ H _ I h) fun d s1 ⟨H1,I1,q1⟩=>?_);cases d with
 |true=>exact ha pins s1 σ H1 D I1 q1
 |false=>exact hb pins s1 σ H1 D I1 q1
def zwm:TS:=fun _ _ _=>False
theorem zqa:PS X st zwm:=fun _ _ _ _ _ _ h=>h.elim
end
abbrev TG:=V->St->Hp->(St->Hp->Prop)->Prop
def PG(X:Cx)(target:Expr)(t:TG):Prop :=
 ∀(pins:zAO) (s:Shared) (σ:St) (H:Hp) (v:V) (u:Value) (Q:St->Hp->Prop),Inv X pins σ H s->RelV v u->t v σ H Q ->
   wpAny (model X.prog X.w) X.A (assign target X.env u) (fun _ s'=>∃σ' H',Inv X pins σ' H' s'/\Q σ' H') X.xe s
section
variable {X:Cx}{pos:Pos}
def zn7(i:Nat):TG:=fun v σ H Q=>Q (σ.set i (some v)) H
theorem zh8{i:Nat}{x:Str}(hN:X.N.Nodup)(hi:X.N[i]? = some x)(hx:Loc X.env.scope x)(hf:X.fn x=true\/X.env.scope.names.lookup x=some .local:=by first | exact .inl rfl | exact .inr rfl | assumption):PG X (.Name x pos) (zn7 i):=by intro pins s σ H v u Q I r h;exact wpAny_assign_Name (zcv I hN hi hx r (fun s' I'=>⟨_,H,I',h⟩) hf)
def z3v(te:TE)(g:TG):TS:=fun D σ H=>te σ H fun x H1=>g x σ H1 D.nx
theorem zxi{i:Nat}{x:Str}{e:Expr}{te:TE}{pos':Pos}(hN:X.N.Nodup)(hi:X.N[i]? = some x)(hx:Loc X.env.scope x)(he:PE X e te)(hs:swapsWith e (some (.Name x pos')) pos.line X.env=pure false:=by rfl)(hf:X.fn x=true\/X.env.scope.names.lookup x=some .local:=by first | exact .inl rfl | exact .inr rfl | assumption) :
   PS X (.Assign [.Name x pos'] e pos) (z3v te (zn7 i)):=by
 intro pins s σ H D I h;refine wpAny_Assign_Name (thn (he pins s σ H _ I h) fun v s1 ⟨y,H1,I1,r1,q1⟩=>?_) hs;exact zcv I1 hN hi hx r1 (fun s2 I2=>⟨_,H1,I2,q1⟩) hf
end
structure It where
 go:Nat->Hp->Prop
 yld:Nat->Hp->V->Hp->Prop
 stop:Nat->Hp->Prop
def zl0(X:Cx)(pins:zAO)(H:Hp)(b:Addr):Prop :=
 H b=none/\b≠X.env.locals/\b∉X.fs/\(b∈X.ex\/X.s₀.heap.objs.size<=b)/\(∀x c,X.env.cells.lookup x=some c->c≠b)/\∀p∈X.pn++pins,p.1≠b
theorem Inv.fpOk{X:Cx}{pins:zAO}{σ:St}{H H':Hp}{s:Shared}{b:Addr}(I:Inv X pins σ H s)(hb:s.heap.objs.size<=b)(hn:H' b=none):zl0 X pins H' b:=by
 refine⟨hn,Nat.ne_of_gt (z4w I.lt hb),I.nofs hb,.inr (z5j I.sz hb),fun x c e z=>?_,fun p hp z=>?_⟩
 · obtain⟨v,q⟩:=I.cell x c e;exact absurd (z4w q.lt (by rw[z];exact hb)) (z61 _)
 · exact absurd (z4w (z5f (I.pin p hp).1) (by rw[z];exact hb)) (z61 _)
structure Turn (P:Program) (w:World) (K:zFr) (tg:Expr) (J:It) (fp:List Addr) (it:Addr) (tn:Nat->Heap->Prop):Prop where
 mem:it∈fp
 obj:∀i h,tn i h->∀b∈fp,∃o,h.get? b=some o/\∀v,o.data≠.cell v
 keep:∀i h h',tn i h->(∀b∈fp,∀o,h.get? b=some o->h'.get? b=some o)->tn i h'
 item:∀(X:Cx),X.prog=P->X.w=w->X.K=K->X.calm=true->∀(i:Nat) (pins:zAO) (s:Shared) (σ:St) (H:Hp) (E:zVP),Inv X pins σ H s->(∀b∈fp,zl0 X pins H b)->tn i s.heap->J.go i H ->
   wpAny (model P w) X.A (pyNext (.ref it)) (fun r s1=>∃u,r=some u /\
     wpAny (model P w) X.A (letOwnedTupleGo tg (.ref it) u) (fun _ s2=>∃x H',Inv X pins σ H' s2/\RelV x u/\J.yld i H x H'/\tn (i+1) s2.heap/\∀b∈fp,H' b=none) E s1) E s
 done:∀(X:Cx),X.prog=P->X.w=w->X.K=K->X.calm=true->∀(i:Nat) (pins:zAO) (s:Shared) (σ:St) (H:Hp) (E:zVP),Inv X pins σ H s->(∀b∈fp,zl0 X pins H b)->tn i s.heap->J.stop i H ->
   wpAny (model P w) X.A (pyNext (.ref it)) (fun r s1=>r=none/\Inv X pins σ H s1) E s
 self:∀(A:Around) (i:Nat) (s:Shared) (Q:zVP) (E:zVP),tn i s.heap->Q (.ref it) s->wpAny (model P w) A (pyIter (.ref it)) Q E s
abbrev TI:=St->Hp->(It->Hp->Prop)->Prop
def PIE(X:Cx)(pins:zAO)(σ:St)(tg:Expr)(R:It->Hp->Prop)(itv:Value)(s2:Shared):Prop :=
 ∃(it:Addr) (fp:List Addr) (tn:Nat->Heap->Prop) (J:It) (H':Hp),itv=.ref it/\Inv X pins σ H' s2/\Turn X.prog X.w X.K tg J fp it tn/\tn 0 s2.heap/\(∀b∈fp,zl0 X pins H' b)/\R J H'
def PI(X:Cx)(tg iter:Expr)(wi:TI):Prop :=
 ∀(pins:zAO) (s:Shared) (σ:St) (H:Hp) (R:It->Hp->Prop),Inv X pins σ H s->wi σ H R ->
   wpAny (model X.prog X.w) X.A (eval iter X.env) (fun v s1=>wpAny (model X.prog X.w) X.A (pyIter v) (PIE X pins σ tg R) X.xe s1) X.xe s
theorem zu7{M:Model}{A:Around}{E:zVP}{s:Shared}{tg:Expr}{it:Addr}{u:Value}{o:Obj}{n:String}{vs:Array Value}{Q:Unit->Shared->Prop}(ho:s.heap.get? it=some o)(hc:o.cls=.type n)(hd:o.data=.fields vs)
   (hn:["enumerate", "zip", "dict_itemiterator", "dict_reverseitemiterator", "odict_iterator", "itertools.zip_longest", "itertools.pairwise"].contains n=false) (hQ:Q () s):wpAny M A (letOwnedTupleGo tg (.ref it) u) Q E s:=by
 unfold letOwnedTupleGo;cases tg<;>first
   |exact z5e hQ
   | (cases u<;>first
       |exact z5e hQ
       | (refine z4u (wpAny_load ho ?_)
          rw[hc,hd];show wpAny M A (if(["enumerate", "zip", "dict_itemiterator", "dict_reverseitemiterator", "odict_iterator", "itertools.zip_longest", "itertools.pairwise"].contains n&&vs[0]?==some (rawInt _))=true then _ else _) Q E s;rw[z5n (by intro h;rw[hn,z9x]at h;cases h)];exact z5e hQ))
def Itl(K:zFr)(a:Addr):It :=
 ⟨fun i H=>∃xs x,SqL K H a xs/\xs[i]? = some x,fun i H x H'=>H'=H/\∀xs,SqL K H a xs->xs[i]? = some x,fun i H=>∃xs,SqL K H a xs/\xs.length<=i⟩
def Itt(K:zFr)(a:Addr):It :=
 ⟨fun i H=>∃xs x,SqT K H a xs/\xs[i]? = some x,fun i H x H'=>H'=H/\∀xs,SqT K H a xs->xs[i]? = some x,fun i H=>∃xs,SqT K H a xs/\xs.length<=i⟩
def Itr(lo:Int)(n:Nat):It:=⟨fun i _=>i<n,fun i H x H'=>H'=H/\x=.int (lo+i),fun i _=>n<=i⟩
theorem zmf{P:Program}{w:World}{K:zFr}{tg:Expr}(a it:Addr):Turn P w K tg (Itl K a) [it] it (fun i h=>h.IsListIter it a i) where
 mem:=by simp
 obj:=fun i h st b hb=>by
   have e:b=it:=by simpa using hb
   subst e;obtain⟨o,e,c,d⟩:=st;exact⟨o,e,fun v z=>by rw[d]at z;cases z⟩
 keep:=fun i h h' st k=>st.at fun o e=>k it (by simp) o e
 item:=by intro X hP hw hK hc i pins s σ H E I hf st hg;subst hP hw hK;obtain⟨xs,x,hq,hx⟩:=hg;obtain⟨its,rv,p,hz⟩:=I.list hq;obtain⟨u,hu,ru⟩:=rv.get hx;obtain⟨f0,f1,f2,f3,f4,f5⟩:=hf it (by simp);refine wpAny_pyNext_list_item st p.isList (x:=u) (by simpa using hu) fun h' st' sb=>?_;have I1:Inv X pins σ H { s with heap:=h' }:=I.turned (t':=s.toks) (fun b o hb e=>(sb.2 b hb).trans e) f0 f1 f3 f4 f5;obtain⟨o,e,c,d⟩:=id st';exact⟨u,rfl,zu7 (s:={ s with heap:=h' }) e c d (by decide) ⟨x,H,I1,ru,⟨rfl,fun ys hy=>by rw[I.list_inj hy hq];exact hx⟩,st',fun b hb=>(hf b hb).1⟩⟩
 done:=by intro X hP hw hK hc i pins s σ H E I hf st hg;subst hP hw hK;obtain⟨xs,hq,hx⟩:=hg;obtain⟨its,rv,p,hz⟩:=I.list hq;obtain⟨f0,f1,f2,f3,f4,f5⟩:=hf it (by simp);have hl:=rv.length;exact wpAny_pyNext_list_end (I.ok.hd hc) st p.isList (by simp;omega) fun h' eb=>⟨rfl,I.turned (t':=s.toks) (fun b o hb e=>eb b o hb e) f0 f1 f3 f4 f5⟩
 self:=fun _ _ _ _ _ st h=>wpAny_pyIter_listiter st h
theorem zkq{P:Program}{w:World}{K:zFr}{tg:Expr}(a it:Addr):Turn P w K tg (Itt K a) [it] it (fun i h=>h.IsTupleIter it a i) where
 mem:=by simp
 obj:=fun i h st b hb=>by
   have e:b=it:=by simpa using hb
   subst e;obtain⟨o,e,c,d⟩:=st;exact⟨o,e,fun v z=>by rw[d]at z;cases z⟩
 keep:=fun i h h' st k=>st.at fun o e=>k it (by simp) o e
 item:=by intro X hP hw hK hc i pins s σ H E I hf st hg;subst hP hw hK;obtain⟨xs,x,hq,hx⟩:=hg;obtain⟨its,rv,p,hz⟩:=I.tuple hq;obtain⟨u,hu,ru⟩:=rv.get hx;obtain⟨f0,f1,f2,f3,f4,f5⟩:=hf it (by simp);refine wpAny_pyNext_tuple_item st (show s.heap.IsTuple a its.toArray from p) (x:=u) (by simpa using hu) fun h' st' sb=>?_;have I1:Inv X pins σ H { s with heap:=h' }:=I.turned (t':=s.toks) (fun b o hb e=>(sb.2 b hb).trans e) f0 f1 f3 f4 f5;obtain⟨o,e,c,d⟩:=id st';exact⟨u,rfl,zu7 (s:={ s with heap:=h' }) e c d (by decide) ⟨x,H,I1,ru,⟨rfl,fun ys hy=>by rw[I.tuple_inj hy hq];exact hx⟩,st',fun b hb=>(hf b hb).1⟩⟩
 done:=by intro X hP hw hK hc i pins s σ H E I hf st hg;subst hP hw hK;obtain⟨xs,hq,hx⟩:=hg;obtain⟨its,rv,p,hz⟩:=I.tuple hq;obtain⟨f0,f1,f2,f3,f4,f5⟩:=hf it (by simp);have hl:=rv.length;exact wpAny_pyNext_tuple_end (I.ok.hd hc) st (show s.heap.IsTuple a its.toArray from p) (by simp;omega) fun h' eb=>⟨rfl,I.turned (t':=s.toks) (fun b o hb e=>eb b o hb e) f0 f1 f3 f4 f5⟩
 self:=fun _ _ _ _ _ st h=>wpAny_pyIter_tupleiter st h
theorem zkr{P:Program}{w:World}{K:zFr}{tg:Expr}(it:Addr)(lo:Int)(n:Nat):Turn P w K tg (Itr lo n) [it] it (fun i h=>IsRangeIter h it (lo+(i:Nat)*1) ((n:Int)-(i:Nat)) 1) where
 mem:=by simp
 obj:=fun i h st b hb=>by
   have e:b=it:=by simpa using hb
   subst e;exact⟨_,st,fun v z=>by
     have z':Data.fields _=Data.cell v:=z;cases z'⟩
 keep:=fun i h h' st k=>k it (by simp) _ st
 item:=by intro X hP hw hK hc i pins s σ H E I hf st hg;subst hP hw hK;obtain⟨f0,f1,f2,f3,f4,f5⟩:=hf it (by simp);have W:=Walks.range (prog:=X.prog) (w:=X.w) (I.ok.hd hc) it lo 1 n;refine W.item i s _ _ hg st fun v h' tk hv st' kk=>?_;obtain⟨t,rfl⟩:=hv;have I1:Inv X pins σ H { s with heap:=h',toks:=tk }:=I.turned (fun b o hb e=>kk b o (by simpa using hb) e) f0 f1 f3 f4 f5;refine⟨_,rfl,zu7 (s:={ s with heap:=h',toks:=tk }) (n:="range_iterator") st' rfl rfl (by decide) ⟨.int (lo+i),H,I1,⟨t,?_⟩,⟨rfl,rfl⟩,st',fun b hb=>(hf b hb).1⟩⟩;rw[Int.mul_one]
 done:=by intro X hP hw hK hc i pins s σ H E I hf st hg;subst hP hw hK;obtain⟨f0,f1,f2,f3,f4,f5⟩:=hf it (by simp);exact wpAny_pyNext_range_end (I.ok.hd hc) st (by have:n<=i:=hg;omega) fun h' eb=>⟨rfl,I.turned (t':=s.toks) (fun b o hb e=>eb b o hb e) f0 f1 f3 f4 f5⟩
 self:=fun _ _ _ _ _ st h=>wpAny_pyIter_rangeiter st h
section
variable {X:Cx}{tg:Expr}
def z19(K:zFr)(tl:TE):TI:=fun σ H R=>tl σ H fun x H1=>∃a,x=.ref a/\(∃xs,SqL K H1 a xs)/\R (Itl K a) H1
def z4f(K:zFr)(tl:TE):TI:=fun σ H R=>tl σ H fun x H1=>∃a,x=.ref a/\(∃xs,SqT K H1 a xs)/\R (Itt K a) H1
theorem zh7{l:Expr}{tl:TE}(hl:PE X l tl):PI X tg l (z19 X.K tl):=by
 intro pins s σ H R I h;refine thn (hl pins s σ H _ I h) fun v s1 ⟨x,H1,I1,r1,q1⟩=>?_;obtain⟨a,e,⟨xs,hq⟩,q⟩:=q1;subst e;cases r1;obtain⟨its,rv,p,hz⟩:=I1.list hq;refine wpAny_pyIter_list p.isList ?_;refine⟨s1.heap.objs.size,[s1.heap.objs.size],_,_,H1,rfl,I1.kept (t':=s1.toks) fun b o e=>z4z _ e,zmf a _,⟨_,z5s _ rfl,rfl,rfl⟩,fun b hb=>?_,q⟩;have e:b=s1.heap.objs.size:=by simpa using hb
 subst e;exact I1.fpOk (z4v _) (I1.hok.fresh (z4v _))
theorem zxn{l:Expr}{tl:TE}(hl:PE X l tl):PI X tg l (z4f X.K tl):=by
 intro pins s σ H R I h;refine thn (hl pins s σ H _ I h) fun v s1 ⟨x,H1,I1,r1,q1⟩=>?_;obtain⟨a,e,⟨xs,hq⟩,q⟩:=q1;subst e;cases r1;obtain⟨its,rv,p,hz⟩:=I1.tuple hq;refine wpAny_pyIter_tuple (show s1.heap.IsTuple a its.toArray from p) ?_;refine⟨s1.heap.objs.size,[s1.heap.objs.size],_,_,H1,rfl,I1.kept (t':=s1.toks) fun b o e=>z4z _ e,zkq a _,⟨_,z5s _ rfl,rfl,rfl⟩,fun b hb=>?_,q⟩;have e:b=s1.heap.objs.size:=by simpa using hb
 subst e;exact I1.fpOk (z4v _) (I1.hok.fresh (z4v _))
theorem zp7{pins:zAO}{σ:St}{H:Hp}{s:Shared}{R:It->Hp->Prop}{E:zVP}{lo hi:Int}{t u v:Tok}{tk:Nat}(I:Inv X pins σ H s)(h1:-(2^62)<=lo)(h2:lo<2^62)(h3:-(2^62)<=hi)(h4:hi<2^62)
   (q:R (Itr lo (hi-lo).toNat) H):wpAny (model X.prog X.w) X.A (pyIter (.ref s.heap.objs.size)) (PIE X pins σ tg R) E { s with heap:=s.heap.push { cls:=.type "range",data:=.fields #[.int lo t,.int hi u,.int 1 v] },toks:=tk }:=by
 refine wpAny_pyIter_range (IsRange.new ..) (small_one h1 h2 h3 h4) ?_;have I1:Inv X pins σ H { s with heap:=s.heap.push { cls:=.type "range",data:=.fields #[.int lo t,.int hi u,.int 1 v] },toks:=tk }:=I.kept fun b o e=>z4z _ e;refine⟨(s.heap.push { cls:=.type "range",data:=.fields #[.int lo t,.int hi u,.int 1 v] }).objs.size,[(s.heap.push { cls:=.type "range",data:=.fields #[.int lo t,.int hi u,.int 1 v] }).objs.size],_,_,H,rfl,
   I1.kept (t':=tk) fun b o e=>z4z _ e,zkr _ lo (hi-lo).toNat,?_,fun b hb=>?_,q⟩
 · have e1:lo+((0:Nat):Int)*1=lo:=by simp
   have e2:(((hi-lo).toNat:Nat):Int)-((0:Nat):Int)=Builtin.Range.rangeSize lo hi 1:=by rw[rangeSize_one];split<;>omega
   show IsRangeIter _ _ (lo+((0:Nat):Int)*1) ((((hi-lo).toNat:Nat):Int)-((0:Nat):Int)) 1;rw[e1,e2];exact z5s _ rfl
 · have e:b=(s.heap.push { cls:=.type "range",data:=.fields #[.int lo t,.int hi u,.int 1 v] }).objs.size:=by simpa using hb
   subst e;exact I1.fpOk (z4v _) (I1.hok.fresh (z4v _))
def z18(ta:TA):TI:=fun σ H R=>ta σ H fun vs H1=>∃j:Int,vs=[.int j]/\-(2^62)<=j/\j<2^62/\R (Itr 0 j.toNat) H1
theorem zgt{a:Expr}{ta:TA}{p pos:Pos}(hg:Gl X "range")(hm:X.mg "range"=none)(ha:PA X [a] ta)(hs:starEach [a] X.env=[(false,eval a X.env)]:=by rfl):PI X tg (.Call (.Name "range" p) [a] [] pos) (z18 ta):=by
 intro pins s σ H R I h;refine Call_ (zdk I hg hm boot_range (z7k (thn (ha pos pins s σ H _ I h) fun us s1 ⟨vs,H1,I1,r1,q1⟩=>?_) hs rfl));obtain⟨j,e,q1,q2,q⟩:=q1;subst e;cases r1 with
 | cons r rr=>
   cases rr;obtain⟨t,rfl⟩:=r;exact call_range_1 (zp7 I1 (by omega) (by omega) q1 q2 (by simpa using q))
def z3s(wi:TI)(g:TG)(tb:TS):TS:=fun D σ H=>wi σ H fun J H1=>∃W:Nat->Nat->St->Hp->Prop,(∃m,W 0 m σ H1)/\∀i m σ H,W i m σ H ->
 (J.stop i H/\D.nx σ H)\/(J.go i H/\∃N:St->Hp->Prop,(∀σ' H',N σ' H'->∃m',m'<m/\W (i+1) m' σ' H')/\∀x H',J.yld i H x H'->g x σ H' fun σ2 H2=>tb { D with nx:=N,ct:=N,bk:=D.nx } σ2 H2)
def zjm(fp:List Addr)(h:Heap):zAO:=fp.filterMap fun b=>(h.get? b).map fun o=>(b,o)
theorem x8{fp:List Addr}{h:Heap}{b:Addr}{o:Obj}(hb:b∈fp)(e:h.get? b=some o):(b,o)∈zjm fp h:=List.mem_filterMap.mpr ⟨b,hb,by rw[e];rfl⟩
theorem znl{fp:List Addr}{h:Heap}{p:Addr×Obj}(hp:p∈zjm fp h):p.1∈fp/\h.get? p.1=some p.2:=by
 obtain⟨b,hb,e⟩:=List.mem_filterMap.mp hp;cases q:h.get? b with
 |none=>rw[q]at e;cases e
 | some o=>
   rw[q]at e;have e':(b,o)=p:=z53 e;subst e';exact⟨hb,q⟩
theorem Inv.pinned{pins:zAO}{σ:St}{H:Hp}{s:Shared}{fp:List Addr}(I:Inv X pins σ H s)(hf:∀b∈fp,zl0 X pins H b)(ho:∀b∈fp,∃o,s.heap.get? b=some o/\∀v,o.data≠.cell v):Inv X (pins++zjm fp s.heap) σ H s :=
 I.pins_of fun p hp=>(z5k.mp hp).elim (fun z=>I.pin p (z44 _ z)) fun z=>by obtain⟨hb,e⟩:=znl z;obtain⟨f0,f1,f2,_⟩:=hf p.1 hb;obtain⟨o,e',d⟩:=ho p.1 hb;rw[e]at e';cases e';exact⟨e,f0,f1,f2,d⟩
theorem Inv.unpinned{pins pl:zAO}{σ:St}{H:Hp}{s:Shared}(I:Inv X (pins++pl) σ H s):Inv X pins σ H s:=I.pins_of fun p hp=>I.pin p (z44 _ (z6a _ hp))
theorem zsf{iter:Expr}{body:List Stmt}{wi:TI}{g:TG}{tb:TS}{pos:Pos}(hp:PassesOwn (model X.prog X.w) X.A X.env X.xe)(hc:X.calm=true)(hi:PI X tg iter wi)(hg:PG X tg g)(hb:PSs X body tb)
   (hs:∀x,foldedSetIterable iter X.env x=pure x:=by intro _;rfl):PS X (.For tg iter body [] pos) (z3s wi g tb):=by
 intro pins s σ H D I h;refine wpAny_For (thn (hi pins s σ H _ I h) fun v s1 h1=>thn h1 fun itv s2 h2=>?_) hs;obtain⟨it,fp,tn,J,H2,e,I2,T,st2,f2,W,⟨m0,w0⟩,turn⟩:=h2;subst e;have stat:∀{H':Hp},(∀b∈fp,H' b=none)->∀b∈fp,zl0 X pins H' b:=fun hn b hb=>⟨hn b hb,(f2 b hb).2⟩
 refine codeAny_forLoop_any (fun n s'=>∃i σ' H',Inv X pins σ' H' s'/\tn i s'.heap/\(∀b∈fp,H' b=none)/\W i n σ' H') ?_ m0 ⟨0,σ,H2,I2,st2,fun b hb=>(f2 b hb).1,w0⟩;rintro n s3 ⟨i,σ3,H3,I3,st3,fr3,w3⟩;rcases turn i n σ3 H3 w3 with⟨stop,qn⟩ | ⟨go,N,hN,step⟩
 · refine z8t hp (thn (T.done X rfl rfl rfl hc i pins s3 σ3 H3 X.xe I3 (stat fr3) st3 stop) fun r s4 ⟨hr,I4⟩=>?_);subst hr;exact z9k ⟨σ3,H3,I4,qn⟩
 · refine z8t hp (thn (T.item X rfl rfl rfl hc i pins s3 σ3 H3 X.xe I3 (stat fr3) st3 go) fun r s4 ⟨u,hr,h4⟩=>?_);subst hr;refine z8t hp (thn h4 fun _ s5 ⟨x,H5,I5,r5,y5,st5,fr5⟩=>?_);have I5':=I5.pinned (stat fr5) (T.obj _ _ st5);refine z8t hp (thn (hg _ s5 σ3 H5 x u _ I5' r5 (step x H5 y5)) fun _ s6 ⟨σ6,H6,I6,q6⟩=>?_);refine z8t hp (thn (hb _ s6 σ6 H6 _ I6 q6) fun f s7 q7=>?_);have again:∀{σ7:St}{H7:Hp},Inv X (pins++zjm fp s5.heap) σ7 H7 s7->N σ7 H7->∃m,m<n/\∃i σ' H',Inv X pins σ' H' s7/\tn i s7.heap/\(∀b∈fp,H' b=none)/\W i m σ' H':=fun {σ7 H7} I7 n7=>by obtain⟨m',hm,w7⟩:=hN σ7 H7 n7;refine⟨m',hm,i+1,σ7,H7,I7.unpinned,T.keep _ _ _ st5 fun b hb o e=>(I7.pin (b,o) (z44 _ (z44 _ (x8 hb e)))).1,fun b hb=>?_,w7⟩;obtain⟨o,e,d⟩:=T.obj _ _ st5 b hb;exact(I7.pin (b,o) (z44 _ (z44 _ (x8 hb e)))).2.1
   cases f with
   |next=>obtain⟨σ7,H7,I7,n7⟩:=q7;exact again I7 n7
   |cont=>obtain⟨σ7,H7,I7,n7⟩:=q7;exact again I7 n7
   |brk=>obtain⟨σ7,H7,I7,q7⟩:=q7;exact⟨σ7,H7,I7.unpinned,q7⟩
   |ret v=>obtain⟨x7,σ7,H7,I7,r7,q7⟩:=q7;exact⟨x7,σ7,H7,I7.unpinned,r7,q7⟩
end
theorem zqx{K:zFr}{a:Addr}{xs:List V}{g:TG}{tb:TS}{D:Ends}{σ:St}{H:Hp}(Pv:Nat->St->Hp->Prop)(h0:Pv 0 σ H)(hl:∀i σ H,i<=xs.length->Pv i σ H->SqL K H a xs)
   (hs:∀i x σ H,xs[i]? = some x->Pv i σ H->g x σ H fun σ2 H2=>tb { D with nx:=Pv (i+1),ct:=Pv (i+1),bk:=D.nx } σ2 H2) (hd:∀σ H,Pv xs.length σ H->D.nx σ H) :
   ∃W:Nat->Nat->St->Hp->Prop,(∃m,W 0 m σ H)/\∀i m σ H,W i m σ H ->
     ((Itl K a).stop i H/\D.nx σ H)\/((Itl K a).go i H/\∃N:St->Hp->Prop,(∀σ' H',N σ' H'->∃m',m'<m/\W (i+1) m' σ' H')/\∀x H',(Itl K a).yld i H x H'->g x σ H' fun σ2 H2=>tb { D with nx:=N,ct:=N,bk:=D.nx } σ2 H2):=by
 refine⟨fun i m σ H=>m=xs.length-i/\i<=xs.length/\Pv i σ H,⟨xs.length,by simp,z5y _,h0⟩,?_⟩;rintro i m σ H ⟨rfl,hi,p⟩;have q:=hl i σ H hi p;by_cases hlt:i<xs.length
 · refine .inr ⟨⟨xs,xs[i],q,by simp[hlt]⟩,Pv (i+1),fun σ' H' p'=>⟨xs.length-(i+1),by omega,rfl,hlt,p'⟩,fun x H' y=>?_⟩;obtain⟨e,y⟩:=y;subst e;exact hs i x σ _ (y xs q) p
 · have e:i=xs.length:=by omega
   subst e;exact .inl ⟨⟨xs,q,z4v _⟩,hd σ H p⟩
theorem zoa{lo:Int}{n:Nat}{g:TG}{tb:TS}{D:Ends}{σ:St}{H:Hp}(Pv:Nat->St->Hp->Prop)(h0:Pv 0 σ H)
   (hs:∀i σ H,i<n->Pv i σ H->g (.int (lo+i)) σ H fun σ2 H2=>tb { D with nx:=Pv (i+1),ct:=Pv (i+1),bk:=D.nx } σ2 H2) (hd:∀σ H,Pv n σ H->D.nx σ H) :
   ∃W:Nat->Nat->St->Hp->Prop,(∃m,W 0 m σ H)/\∀i m σ H,W i m σ H ->
     ((Itr lo n).stop i H/\D.nx σ H)\/((Itr lo n).go i H/\∃N:St->Hp->Prop,(∀σ' H',N σ' H'->∃m',m'<m/\W (i+1) m' σ' H')/\∀x H',(Itr lo n).yld i H x H'->g x σ H' fun σ2 H2=>tb { D with nx:=N,ct:=N,bk:=D.nx } σ2 H2):=by
 refine⟨fun i m σ H=>m=n-i/\i<=n/\Pv i σ H,⟨n,by simp,z5y _,h0⟩,?_⟩;rintro i m σ H ⟨rfl,hi,p⟩;by_cases hlt:i<n
 · refine .inr ⟨hlt,Pv (i+1),fun σ' H' p'=>⟨n-(i+1),by omega,rfl,hlt,p'⟩,fun x H' y=>?_⟩;obtain⟨e,y⟩:=y;subst e y;exact hs i σ _ hlt p
 · have e:i=n:=by omega
   subst e;exact .inl ⟨z4v _,hd σ H p⟩
abbrev R2:=V->V->Hp->VK->Prop
def OpR(X:Cx)(f:Value->Value->Sem Value)(r:R2):Prop :=
 ∀(pins:zAO) (s:Shared) (σ:St) (H:Hp) (x y:V) (v u:Value) (Q:VK),Inv X pins σ H s->RelV x v->RelV y u->r x y H Q ->
   wpAny (model X.prog X.w) X.A (f v u) (EP X pins σ Q) X.xe s
def UnR(X:Cx)(f:Value->Sem Value)(r:V->Hp->VK->Prop):Prop :=
 ∀(pins:zAO) (s:Shared) (σ:St) (H:Hp) (x:V) (v:Value) (Q:VK),Inv X pins σ H s->RelV x v->r x H Q ->
   wpAny (model X.prog X.w) X.A (f v) (EP X pins σ Q) X.xe s
def CallR(X:Cx)(f:Value)(r:List V->Hp->VK->Prop):Prop :=
 ∀(pins:zAO) (s:Shared) (σ:St) (H:Hp) (xs:List V) (us:List Value) (Q:VK),Inv X pins σ H s->Vals xs us->r xs H Q ->
   wpAny (model X.prog X.w) X.A (call f us) (EP X pins σ Q) X.xe s
def tOp(r:R2)(ta tb:TE):TE:=fun σ H Q=>ta σ H fun x H1=>tb σ H1 fun y H2=>r x y H2 Q
def tUn(r:V->Hp->VK->Prop)(ta:TE):TE:=fun σ H Q=>ta σ H fun x H1=>r x H1 Q
def rI(C:Int->Int->Prop)(g:Int->Int->V):R2:=fun x y H Q=>∃i j,x=.int i/\y=.int j/\C i j/\Q (g i j) H
def rI0(g:Int->Int->V):R2:=fun x y H Q=>∃i j,x=.int i/\y=.int j/\Q (g i j) H
def rU(g:Int->V):V->Hp->VK->Prop:=fun x H Q=>∃i,x=.int i/\Q (g i) H
section
variable {X:Cx}{a b c:Expr}{ta tb tc:TE}{pos:Pos}
theorem z2q(ha:PE X a ta)(hb:PE X b tb){pins:zAO}{s:Shared}{σ:St}{H:Hp}{R:V->V->Hp->Prop}(I:Inv X pins σ H s)
   (h:ta σ H fun x H1=>tb σ H1 fun y H2=>R x y H2) {Q:zVP}{f:Value->Value->Sem Value}
   (hf:∀v u s2 x y H2,Inv X pins σ H2 s2->RelV x v->RelV y u->R x y H2->wpAny (model X.prog X.w) X.A (f v u) Q X.xe s2) :
   wpAny (model X.prog X.w) X.A (eval a X.env) (fun v s₁=>wpAny (model X.prog X.w) X.A (eval b X.env) (fun u s₂=>wpAny (model X.prog X.w) X.A (f v u) Q X.xe s₂) X.xe s₁) X.xe s:=by
 refine thn (ha pins s σ H _ I h) fun v s1 ⟨x,H1,I1,r1,q1⟩=>?_;refine thn (hb pins s1 σ H1 _ I1 q1) fun u s2 ⟨y,H2,I2,r2,q2⟩=>?_;exact hf v u s2 x y H2 I2 r1 r2 q2
theorem z1o{op:Operator}{r:R2}(ho:OpR X (binaryOp op) r)(ha:PE X a ta)(hb:PE X b tb):PE X (.BinOp a op b pos) (tOp r ta tb):=by intro pins s σ H Q I h;exact wpAny_BinOp (z2q ha hb I h fun v u s2 x y H2 I2 rx ry q=>ho pins s2 σ H2 x y v u Q I2 rx ry q)
theorem z1n{op:UnaryOp}{r:V->Hp->VK->Prop}(ho:UnR X (unaryOp op) r)(ha:PE X a ta):PE X (.UnaryOp op a pos) (tUn r ta):=by intro pins s σ H Q I h;exact UnaryOp_ (thn (ha pins s σ H _ I h) fun v s1 ⟨x,H1,I1,r1,q1⟩=>ho pins s1 σ H1 x v Q I1 r1 q1)
theorem opI{f:Value->Value->Sem Value}{C:Int->Int->Prop}{g:Int->Int->Int}
   (rule:∀(i j:Int) (t u:Tok) (s:Shared) (Q:zVP) (E:zVP),C i j->Q (.int (g i j) s.toks) { s with toks:=s.toks+1 }->wpAny (model X.prog X.w) X.A (f (.int i t) (.int j u)) Q E s) :
   OpR X f (rI C fun i j=>.int (g i j)):=by
 intro pins s σ H x y v u Q I rx ry h;obtain⟨i,j,rfl,rfl,hc,q⟩:=h;obtain⟨t,rfl⟩:=rx;obtain⟨t',rfl⟩:=ry;exact rule i j t t' s _ _ hc ⟨.int (g i j),H,I.tok _,⟨_,rfl⟩,q⟩
theorem z29{f:Value->Value->Sem Value}{g:Int->Int->Int}
   (rule:∀(i j:Int) (t u:Tok) (s:Shared) (Q:zVP) (E:zVP),Q (.int (g i j) s.toks) { s with toks:=s.toks+1 }->wpAny (model X.prog X.w) X.A (f (.int i t) (.int j u)) Q E s) :
   OpR X f (rI0 fun i j=>.int (g i j)):=by
 intro pins s σ H x y v u Q I rx ry h;obtain⟨i,j,rfl,rfl,q⟩:=h;obtain⟨t,rfl⟩:=rx;obtain⟨t',rfl⟩:=ry;exact rule i j t t' s _ _ ⟨.int (g i j),H,I.tok _,⟨_,rfl⟩,q⟩
theorem z0k{f:Value->Value->Sem Value}{g:Int->Int->Bool}
   (rule:∀(i j:Int) (t u:Tok) (s:Shared) (Q:zVP) (E:zVP),Q (.bool (g i j)) s->wpAny (model X.prog X.w) X.A (f (.int i t) (.int j u)) Q E s) :
   OpR X f (rI0 fun i j=>.bl (g i j)):=by
 intro pins s σ H x y v u Q I rx ry h;obtain⟨i,j,rfl,rfl,q⟩:=h;obtain⟨t,rfl⟩:=rx;obtain⟨t',rfl⟩:=ry;exact rule i j t t' s _ _ ⟨.bl (g i j),H,I,rfl,q⟩
def z4r(i j:Int):Prop:=0<j/\j<1073741824
def z4q(i j:Int):Prop:=0<=j/\j<=1000000/\i.natAbs<2^64
def CMul(i j:Int):Prop:=(-(2^64)<i/\i<2^64)\/(-(2^64)<j/\j<2^64)
theorem CMul.ok{i j:Int}(h:CMul i j):IntMulOk i j:=by
 rcases h with⟨h1,h2⟩ | ⟨h1,h2⟩
 · exact .of_left (intBits_le_64 h1 h2)
 · exact .of_right (intBits_le_64 h1 h2)
theorem op_add:OpR X (binaryOp .Add) (rI0 fun i j=>.int (i+j)):=z29 fun _ _ _ _ _ _ _ q=>add_int q
theorem zxy:OpR X (binaryOp .Sub) (rI0 fun i j=>.int (i-j)):=z29 fun _ _ _ _ _ _ _ q=>sub_int q
theorem zus:OpR X (binaryOp .FloorDiv) (rI z4r fun i j=>.int (i/j)):=opI fun i j _ _ _ _ _ hc q=>by have h1:(0:Int)<j:=hc.1;have h2:j<1073741824:=hc.2;exact floordiv_int (by omega) (by rw[Int.fdiv_eq_ediv_of_nonneg i (by omega)];exact q) (.inl (PyProof.noPylong_small (by omega)))
theorem zx0:OpR X (binaryOp .Mod) (rI (fun _ j=>0<j) fun i j=>.int (i%j)):=opI fun i j _ _ _ _ _ hc q=>by have h1:(0:Int)<j:=hc;exact mod_int' (by omega) (by rw[Int.fmod_eq_emod_of_nonneg i (by omega)];exact q)
theorem zxz:OpR X (binaryOp .Pow) (rI z4q fun i j=>.int (i^j.toNat)):=opI fun _ _ _ _ _ _ _ hc q=>pow_int_small hc.1 hc.2.1 hc.2.2 q
theorem unI{f:Value->Sem Value}{g:Int->Int}
   (rule:∀(i:Int) (t:Tok) (s:Shared) (Q:zVP) (E:zVP),Q (.int (g i) s.toks) { s with toks:=s.toks+1 }->wpAny (model X.prog X.w) X.A (f (.int i t)) Q E s) :
   UnR X f (rU fun i=>.int (g i)):=by
 intro pins s σ H x v Q I rx h;obtain⟨i,rfl,q⟩:=h;obtain⟨t,rfl⟩:=rx;exact rule i t s _ _ ⟨.int (g i),H,I.tok _,⟨_,rfl⟩,q⟩
theorem zwe:UnR X (unaryOp .USub) (rU fun i=>.int (-i)):=unI fun _ _ _ _ _ q=>neg_int q
end
section
variable {X:Cx}{a b c:Expr}{ta tb tc:TE}{pos:Pos}
theorem zoe{pins:zAO}{σ:St}{H:Hp}{s:Shared}{Q:VK}{k k':Bool}(I:Inv X pins σ H s)(q:Q (.bl k) H)(e:k=k'):EP X pins σ Q (.bool k') s:=by subst e;exact⟨.bl k,H,I,rfl,q⟩
theorem zqi:OpR X (compareOp .Lt) (rI0 fun i j=>.bl (decide (i<j))):=z0k fun _ _ _ _ _ _ _ q=>lt_int q
theorem zk5:OpR X (compareOp .LtE) (rI0 fun i j=>.bl (decide (i<=j))):=z0k fun _ _ _ _ _ _ _ q=>le_int q
theorem z1u:OpR X (compareOp .Gt) (rI0 fun i j=>.bl (decide (j<i))):=z0k fun _ _ _ _ _ _ _ q=>gt_int q
theorem z1v:OpR X (compareOp .GtE) (rI0 fun i j=>.bl (decide (j<=i))):=z0k fun _ _ _ _ _ _ _ q=>ge_int q
theorem zni:OpR X (compareOp .Lt) (fun x y H Q=>∃i j,x=.str i/\y=.str j/\Q (.bl (decide (i.cps.toList<j.cps.toList))) H):=by intro pins s σ H x y v u Q I rx ry h;obtain⟨i,j,rfl,rfl,q⟩:=h;obtain⟨t,rfl⟩:=rx;obtain⟨t',rfl⟩:=ry;exact lt_str (zoe I q rfl)
theorem op_isN:OpR X (compareOp .Is) (fun x y H Q=>y=.non/\Q (.bl (decide (x=.non))) H):=by
 intro pins s σ H x y v u Q I rx ry h;obtain⟨rfl,q⟩:=h;cases ry;refine is_none_gen (zoe I q ?_);cases x<;>first
   | (cases rx;rfl)
   | (obtain⟨t,rfl⟩:=rx;rfl)
theorem op_notN:OpR X (compareOp .IsNot) (fun x y H Q=>y=.non/\Q (.bl (!decide (x=.non))) H):=by
 intro pins s σ H x y v u Q I rx ry h;obtain⟨rfl,q⟩:=h;cases ry;refine isnot_none_gen (zoe I q ?_);cases x<;>first
   | (cases rx;rfl)
   | (obtain⟨t,rfl⟩:=rx;rfl)
theorem OpR.or{f:Value->Value->Sem Value}{r r':R2}(h:OpR X f r)(h':OpR X f r'):OpR X f (fun x y H Q=>r x y H Q\/r' x y H Q):=by
 intro pins s σ H x y v u Q I rx ry q;rcases q with q | q
 · exact h pins s σ H x y v u Q I rx ry q
 · exact h' pins s σ H x y v u Q I rx ry q
theorem kr(b:Expr){op:CmpOp}(h:op≠.In:=by decide)(h2:op≠.NotIn:=by decide):behindInMarks op b=false:=by
 have e1:(op==CmpOp.In)=false:=by cases op<;>first | rfl | exact absurd rfl h
 have e2:(op==CmpOp.NotIn)=false:=by cases op<;>first | rfl | exact absurd rfl h2
 cases b<;>simp[behindInMarks,e1,e2]
theorem zuo{op:CmpOp}{r:R2}(ho:OpR X (compareOp op) r)(ha:PE X a ta)(hb:PE X b tb)(hm:behindInMarks op b=false):PE X (.Compare a [op] [b] pos) (tOp r ta tb):=by intro pins s σ H Q I h;exact wpAny_Compare1 (z2q ha hb I h fun v u s2 x y H2 I2 rx ry q=>ho pins s2 σ H2 x y v u Q I2 rx ry q) hm
def zpn(t:TE):TT:=fun σ H Q=>t σ H fun x H'=>∃k,x=.bl k/\Q k H'
theorem zuh{op:CmpOp}{r:R2}(ho:OpR X (compareOp op) r)(ha:PE X a ta)(hb:PE X b tb)(hm:behindInMarks op b=false):PT X (.Compare a [op] [b] pos) (zpn (tOp r ta tb)):=by
 intro pins s σ H Q I h;refine wpAny_isTrue_Compare1 (thn (ha pins s σ H _ I h) fun v s1 ⟨x,H1,I1,r1,q1⟩=>thn (hb pins s1 σ H1 _ I1 q1) fun u s2 ⟨y,H2,I2,r2,q2⟩=>
   thn (ho pins s2 σ H2 x y v u _ I2 r1 r2 q2) fun c s3 ⟨z,H3,I3,r3,k,e,q3⟩=>?_) hm
 subst e;cases r3;exact z6c ⟨H3,I3,q3⟩
def zml(r r':R2)(ta tb tc:TE):TE:=fun σ H Q=>ta σ H fun x H1=>tb σ H1 fun y H2=>r x y H2 fun z H3=>∃k,z=.bl k /\
 (if k=true then tc σ H3 fun w' H4=>r' y w' H4 Q else Q (.bl false) H3)
theorem zqe{op op':CmpOp}{r r':R2}(ho:OpR X (compareOp op) r)(ho':OpR X (compareOp op') r')(ha:PE X a ta)(hb:PE X b tb)(hc:PE X c tc)
   (hm:lastMarks [op,op'] [b,c]=false:=by with_unfolding_all rfl):PE X (.Compare a [op,op'] [b,c] pos) (zml r r' ta tb tc):=by
 intro pins s σ H Q I h;refine Compare_chain (thn (ha pins s σ H _ I h) fun v s1 ⟨x,H1,I1,r1,q1⟩=>chain_link (thn (hb pins s1 σ H1 _ I1 q1) fun u s2 ⟨y,H2,I2,r2,q2⟩=>
   thn (ho pins s2 σ H2 x y v u _ I2 r1 r2 q2) fun d s3 ⟨z,H3,I3,r3,k,e,q3⟩=>?_)) hm
 subst e;cases r3;refine z6c ?_;cases k with
 |false=>exact ite_ff ⟨.bl false,H3,I3,rfl,q3⟩
 |true=>exact ite_tt (chain_last (thn (hc pins s3 σ H3 _ I3 q3) fun w' s4 ⟨z',H4,I4,r4,q4⟩=>ho' pins s4 σ H4 y z' u w' Q I4 r2 r4 q4))
theorem zp8{op op':CmpOp}{r r':R2}(ho:OpR X (compareOp op) r)(ho':OpR X (compareOp op') r')(ha:PE X a ta)(hb:PE X b tb)(hc:PE X c tc)
   (hm:lastMarks [op,op'] [b,c]=false:=by with_unfolding_all rfl):PT X (.Compare a [op,op'] [b,c] pos) (zpn (zml r r' ta tb tc)):=by
 intro pins s σ H Q I h;refine isTrue_chain (thn (ha pins s σ H _ I h) fun v s1 ⟨x,H1,I1,r1,q1⟩=>test_link (thn (hb pins s1 σ H1 _ I1 q1) fun u s2 ⟨y,H2,I2,r2,q2⟩=>
   thn (ho pins s2 σ H2 x y v u _ I2 r1 r2 q2) fun d s3 ⟨z,H3,I3,r3,k,e,q3⟩=>?_)) hm
 subst e;cases r3;refine z6c ?_;cases k with
 | false=>
   obtain⟨k',e',q'⟩:=q3;cases e';exact ite_ff ⟨H3,I3,q'⟩
 | true=>
   refine ite_tt (test_last (thn (hc pins s3 σ H3 _ I3 q3) fun w' s4 ⟨z',H4,I4,r4,q4⟩=>thn (ho' pins s4 σ H4 y z' u w' _ I4 r2 r4 q4) fun d' s5 ⟨z2,H5,I5,r5,k2,e2,q5⟩=>?_));subst e2;cases r5;exact z6c ⟨H5,I5,q5⟩
theorem zgz:(sizeLine:Nat)<2^63:=by rw[z6p];decide
theorem op_add_str:OpR X (binaryOp .Add) (fun x y H Q=>∃i j,x=.str i/\y=.str j/\i.length+j.length<=sizeLine/\Q (.str (i++j)) H):=by intro pins s σ H x y v u Q I rx ry h;obtain⟨i,j,rfl,rfl,hz,q⟩:=h;obtain⟨t,rfl⟩:=rx;obtain⟨t',rfl⟩:=ry;exact add_str (fun t' tk=>⟨.str (i++j),H,I.tok _,⟨_,rfl⟩,q⟩) hz
theorem zl9{x:V}{us:List Value}(r:Vals [x] us):∃u,us=[u]/\RelV x u:=by
 cases r with
 |cons r1 r2=>cases r2;exact⟨_,rfl,r1⟩
theorem z05{x y:V}{us:List Value}(r:Vals [x,y] us):∃u w',us=[u,w']/\RelV x u/\RelV y w':=by
 cases r with
 | cons r1 r2=>
   cases r2 with
   |cons r3 r4=>cases r4;exact⟨_,_,rfl,r1,r3⟩
theorem zrl:CallR X (.builtin "abs") (fun xs H Q=>∃i,xs=[.int i]/\Q (.int (if i<0 then -i else i)) H):=by intro pins s σ H xs us Q I r h;obtain⟨i,rfl,q⟩:=h;obtain⟨u,rfl,t,rfl⟩:=zl9 r;exact call_abs_int fun u tk=>⟨.int (if i<0 then -i else i),H,I.tok _,⟨_,rfl⟩,q⟩
theorem zo1(hc:X.calm=true):CallR X (.builtin "max") (fun xs H Q=>∃i j,xs=[.int i,.int j]/\Q (.int (if j>i then j else i)) H):=by
 intro pins s σ H xs us Q I r h;obtain⟨i,j,rfl,q⟩:=h;obtain⟨u,w',rfl,⟨t,rfl⟩,⟨t',rfl⟩⟩:=z05 r;refine max_two_ints (I.ok.hd hc) fun h' tk k=>⟨_,H,I.kept k,?_,q⟩
 by_cases hj:j>i
 · rw[z5g hj,z5g hj];exact⟨_,rfl⟩
 · rw[z5n hj,z5n hj];exact⟨_,rfl⟩
theorem zg9:CallR X (.type "str") (fun xs H Q=>∃i,xs=[.int i]/\i.natAbs.log2<1920/\Q (.str (toString i)) H):=by intro pins s σ H xs us Q I r h;obtain⟨i,rfl,hz,q⟩:=h;obtain⟨u,rfl,t,rfl⟩:=zl9 r;exact PySem.P.str_of_int hz ⟨.str _,H,I.tok _,⟨_,rfl⟩,q⟩
end
structure ObjM (h:Heap) (x dx C:Addr) (mA:zMg):Prop where
 obj:h.get? x=some (PySem.W.instObj C dx)
 ns:h.Ns1 dx mA
 ne:dx≠x
theorem zns{h:Heap}{dx:Addr}{mA:zMg}(n:h.Ns1 dx mA):∃od,h.get? dx=some od/\∀name,PySem.W.lookIn name od=some (mA name):=by
 obtain⟨o,es,ep,ho,hd,hk,_,hm⟩:=n;refine⟨o,ho,fun name=>?_⟩;have e:=hm name;unfold nsFind findBy at e;rw[<-Array.find?_toList]at e;unfold PySem.W.lookIn;rw[hd];dsimp only;split
 · rename_i y q;rw[q]at e;exact z64 some e
 · rename_i q;rw[q]at e;have a:es.toList.any (·.refKey)=false:=by rw[List.any_eq_false];intro y hy;obtain⟨z,t,hkey⟩:=hk y (Array.mem_toList_iff.mp hy);simp[DictEntry.refKey,hkey]
   have a':¬ es.toList.any (·.refKey)=true:=by rw[a];exact z6m
   rw[z5n a'];exact z64 some e
theorem ObjM.look{h:Heap}{x dx C:Addr}{mA:zMg}(I:ObjM h x dx C mA):∃od,PySem.W.InstAt h x (PySem.W.instObj C dx) C (some od)/\∀name,PySem.W.lookIn name od=some (mA name) :=
 let⟨od,ho,hl⟩:=zns I.ns
 ⟨od,⟨I.obj,rfl,rfl,ho⟩,hl⟩
section
variable {prog:Program}{w:World}{A:Around}{E:zVP}{s:Shared}{K:zFr}{x dx C f:Addr}{mA:zMg}{name:Str}{v:Value}
theorem zu8{expr:Bool}{Q:zVP}(X:K.In s.heap)(I:ObjM s.heap x dx C mA)(hg:PySem.W.plainGet K C name=true)(hh:PySem.W.hasDictIn K C=true)
   (ha:PySem.W.findIn K (.ref C) name=some none) (hv:mA name=some v) (hv':PySem.W.handedIn v=true) (h:Q v { s with toks:=s.toks+1 }) :
   wpAny (model prog w) A (getAttr (.ref x) name expr) Q E s:=by
 obtain⟨od,J,hl⟩:=I.look;exact PySem.W.get_value X J (z9l hg).1 (PySem.W.findObj_own hh ha rfl (by rw[hl,hv])) hv' h
theorem zqw{pl:Sem Bool}{Q:Value×List Value->Shared->Prop}(X:K.In s.heap)(I:ObjM s.heap x dx C mA)(hg:PySem.W.plainGet K C name=true)
   (hf:PySem.W.findIn K (.ref C) name=some (some (.ref f))) (ht:PySem.W.isFn K (.ref f)=true) (hv:mA name=none) (h:Q (.ref f,[.ref x]) s) :
   wpAny (model prog w) A (getMethod (.ref x) name pl) Q E s:=by
 obtain⟨od,J,hl⟩:=I.look;exact PySem.W.method_fn X J (z9l hg).1 (z9l hg).2 hf (z7q.mp ht) (by show(PySem.W.lookIn name od).map (·.isSome)=some false;rw[hl,hv];rfl) h
theorem zt8{ns:List Str}{Q:Unit->Shared->Prop}(X:K.In s.heap)(I:ObjM s.heap x dx C mA)
   (hs:PySem.W.findIn K (.ref C) "__setattr__"=some (some (.builtin "object.__setattr__"))) (hp:PySem.W.plainOver K C=true) (ht:PySem.W.takerIn K C name=some none) (hh:PySem.W.hasDictIn K C=true)
   (hw:PySem.Within mA ns) (hsz:ns.length<=sizeLine)
   (h:∀h',ObjM h' x dx C (fun y=>if y=name then some v else mA y)->Heap.SameBut dx s.heap h'->Q () { s with heap:=h',toks:=s.toks+2 }) :
   wpAny (model prog w) A (setAttr (.ref x) name v) Q E s:=by
 obtain⟨od,J,hl⟩:=I.look;refine PySem.W.set_plain X J hs (PySem.W.osa_open (s:={ s with toks:=s.toks+1 }) (r:=none) X J hp ht fun b=>?_);obtain⟨cd,hc,hd'⟩:=PySem.W.any_some hh;have hx:s.heap.get? x=some ⟨.ref C,some dx,.plain,#[]⟩:=I.obj;refine z4u (z5e (z4u (z4u (z9y hx (z4u (PySem.W.Looks.here (s:={ s with toks:=s.toks+1 }) (PySem.W.looks_clsIn X hc) ?_))))));rw[hd'];refine z5e (a:=some dx) (z4u (z5e (z4u ?_)));refine wpAny_nsSet1 (s:={ s with toks:=s.toks+1 }) I.ns fun h' hn2 hs2=>?_;obtain⟨oD,esD,epD,hoD,hdD,hcD⟩:=hn2.count (PySem.Within.cons name v hw);refine z4u (wpAny_lookBehind hoD (by rw[hdD];exact pastItsLine_dict (z5j hcD (by rw[List.length_cons];omega))) ?_);exact z5e (h _ ⟨(hs2.2 _ (z7e I.ne)).trans I.obj,hn2,I.ne⟩ hs2)
theorem zqn{R:Result->Shared->Prop}{vs:List Value}{kw:List (Str×Value)}(X:K.In s.heap)(hm:PySem.W.makesIn K C=true)
   (hi:PySem.W.findIn K (.ref C) "__init__"=some (some (.ref f))) (hf:PySem.W.typeIn K (.ref f)=some (.type "function"))
   (h:codeAny (model prog w) (A.under (.builtin "type.__call__" ⟨.ref C::vs,kw⟩)) (.call (.ref f) ⟨.ref (s.heap.objs.size+1)::vs,kw⟩) (PySem.W.InitBack (s.heap.objs.size+1) R)
     { s with heap:=(s.heap.push PySem.W.emptyDict).push (PySem.W.instObj C s.heap.objs.size) }) :
   codeAny (model prog w) A (.call (.ref C) ⟨vs,kw⟩) R s:=by
 obtain⟨hh,g,d,t,os⟩:=s;exact PySem.W.make_core (PySem.W.makes_of X hm) (PySem.W.looks_findIn X hi) (fun self=>PySem.W.bind_fn X self hf) (.inl rfl) h
end
def zec(f:Str)(v:V):List (Str×V)->List (Str×V)
 | []=>[(f,v)]
 | (g,x)::r=>if g=f then (g,v)::r else (g,x)::zec f v r
theorem zdf(f g:Str)(v:V):∀fs:List (Str×V),(zec f v fs).lookup g=if g=f then some v else fs.lookup g
 | []=>by
   show List.lookup g [(f,v)]=_;by_cases h:g=f
   · have hb:(g==f)=true:=z7q.mpr h;simp only[List.lookup,hb,z5g h]
   · have hb:(g==f)=false:=z8l.mpr h;simp only[List.lookup,hb,z5n h]
 | (k,x)::r=>by
   have ih:=zdf f g v r;rw[show zec f v ((k,x)::r)=(if k=f then (k,v)::r else (k,x)::zec f v r)from rfl];by_cases hk:k=f
   · rw[z5g hk];by_cases h:g=k
     · have hb:(g==k)=true:=z7q.mpr h;simp only[List.lookup,hb,z5g (h.trans hk)]
     · have hb:(g==k)=false:=z8l.mpr h;simp only[List.lookup,hb,z5n (fun e:g=f=>h (e.trans hk.symm))]
   · rw[z5n hk];by_cases h:g=k
     · have hb:(g==k)=true:=z7q.mpr h;simp only[List.lookup,hb,z5n (fun e:g=f=>hk (h.symm.trans e))]
     · have hb:(g==k)=false:=z8l.mpr h;simp only[List.lookup,hb];exact ih
theorem zdm(f:Str)(v:V):∀fs:List (Str×V),f∈(zec f v fs).map (·.1)/\∀g,g∈fs.map (·.1)->g∈(zec f v fs).map (·.1)
 | []=>⟨by simp[zec],fun g h=>by simp at h⟩
 | (k,x)::r=>by
   obtain⟨i1,i2⟩:=zdm f v r;rw[show zec f v ((k,x)::r)=(if k=f then (k,v)::r else (k,x)::zec f v r)from rfl];by_cases hk:k=f
   · rw[z5g hk];subst hk;exact⟨by simp,fun g h=>by simpa using h⟩
   · rw[z5n hk];refine⟨?_,fun g h=>?_⟩
     · rw[z5a];exact z40 _ i1
     · rw[z5a]at h ⊢;rcases z46.mp h with e | e
       · exact z46.mpr (.inl e)
       · exact z40 _ (i2 g e)
theorem zdi(f:Str)(v:V):∀fs:List (Str×V),(zec f v fs).length<=fs.length+1
 | []=>by simp[zec]
 | (k,x)::r=>by
   have ih:=zdi f v r;rw[show zec f v ((k,x)::r)=(if k=f then (k,v)::r else (k,x)::zec f v r)from rfl];by_cases hk:k=f
   · rw[z5g hk,List.length_cons,List.length_cons];omega
   · rw[z5n hk,List.length_cons,List.length_cons];omega
theorem RelO.some_of{v:V}{o:Option Value}(r:RelO (some v) o):∃u,o=some u/\RelV v u:=by
 cases o with
 |none=>exact(show False from r).elim
 |some u=>exact⟨u,rfl,r⟩
theorem RelO.none_of{o:Option Value}(r:RelO none o):o=none:=by
 cases o with
 |none=>rfl
 |some u=>exact(show False from r).elim
theorem zn5{v:V}{u:Value}(r:RelV v u):PySem.W.handedIn u=true:=by
 cases v with
 |non=>cases(show u=Value.none from r);rfl
 |bl b=>cases(show u=Value.bool b from r);rfl
 |int i=>obtain⟨t,e⟩:=(show ∃t,u=Value.int i t from r);cases e;rfl
 |str x=>obtain⟨t,e⟩:=(show ∃t,u=Value.str x t from r);cases e;rfl
 |byt b=>obtain⟨t,e⟩:=(show ∃t,u=Value.bytes b t from r);cases e;rfl
 |flt b=>obtain⟨t,e⟩:=(show ∃t,u=Value.float b t from r);cases e;rfl
 |ref a=>cases(show u=Value.ref a from r);rfl
 |ty n=>cases(show u=Value.type n from r);rfl
section
variable {P:Program}{w:World}{H H':Hp}{h h':Heap}{a C dx:Addr}{fs fs':List (Str×V)}
theorem zfs(hok:HOk P w H h)(e:H a=some (.ins C dx fs)):∃mA,ObjM h a dx C mA/\(∀f,RelO (fs.lookup f) (mA f))/\PySem.Within mA (fs.map (·.1))/\fs.length<=1000/\H dx=some (.own a):=by
 obtain⟨d,z,ne,ob,mA,n,r,q⟩:=(show ObjOk P w H h a (.ins C dx fs)from hok a _ e)
 exact⟨mA,⟨ob,n,ne⟩,r,q,z,d⟩
end
structure Cls (K:zFr) (C:Addr):Prop where
 pg:PySem.W.plainGet K C Str.empty=true
 hd:PySem.W.hasDictIn K C=true
 po:PySem.W.plainOver K C=true
 sa:PySem.W.findIn K (.ref C) "__setattr__"=some (some (.builtin "object.__setattr__"))
theorem Cls.get{K:zFr}{C:Addr}(c:Cls K C)(f:Str):PySem.W.plainGet K C f=true:=c.pg
def NoAttr(K:zFr)(C:Addr)(f:Str):Prop:=PySem.W.findIn K (.ref C) f=some none
theorem NoAttr.taker{K:zFr}{C:Addr}{f:Str}(n:NoAttr K C f):PySem.W.takerIn K C f=some none:=by unfold PySem.W.takerIn;rw[show PySem.W.findIn K (.ref C) f=some none from n];rfl
structure Meth (K:zFr) (C:Addr) (m:Str) (f:Addr):Prop where
 at_:PySem.W.findIn K (.ref C) m=some (some (.ref f))
 fn:PySem.W.isFn K (.ref f)=true
 kp:PySem.W.keepIn K (.ref f)=true
section
variable {X:Cx}{pins:zAO}{σ:St}{H:Hp}{s:Shared}{a C dx:Addr}{fs:List (Str×V)}{f:Str}{v:V}{A:Around}{E:zVP}
theorem zli{b:Bool}{Q:zVP}(I:Inv X pins σ H s)(e:H a=some (.ins C dx fs))(c:Cls X.K C)(n:NoAttr X.K C f)(l:fs.lookup f=some v)
   (h:∀u s',Inv X pins σ H s'->RelV v u->Q u s'):wpAny (model X.prog X.w) A (getAttr (.ref a) f b) Q E s:=by
 obtain⟨mA,O,r,_,_,_⟩:=zfs I.hok e;obtain⟨u,hu,ru⟩:=RelO.some_of (v:=v) (o:=mA f) (by rw[<-l];exact r f);exact zu8 I.kIn O (c.get f) c.hd n hu (zn5 ru) (h u _ (I.tok _) ru)
theorem zlh{m:Str}{g:Addr}{pl:Sem Bool}{Q:Value×List Value->Shared->Prop}(I:Inv X pins σ H s)(e:H a=some (.ins C dx fs))(c:Cls X.K C)(k:Meth X.K C m g)(l:fs.lookup m=none)
   (h:Q (.ref g,[.ref a]) s):wpAny (model X.prog X.w) A (getMethod (.ref a) m pl) Q E s:=by
 obtain⟨mA,O,r,_,_,_⟩:=zfs I.hok e;have hn:mA m=none:=RelO.none_of (by rw[<-l];exact r m);exact zqw I.kIn O (c.get m) k.at_ k.fn hn h
theorem zku{y:V}{u:Value}{Q:Unit->Shared->Prop}(I:Inv X pins σ H s)(e:H a=some (.ins C dx fs))(c:Cls X.K C)(n:NoAttr X.K C f)(hl:fs.length<1000)(ry:RelV y u)
   (h:∀s',Inv X pins σ (upd H a (.ins C dx (zec f y fs))) s'->Q () s'):wpAny (model X.prog X.w) A (setAttr (.ref a) f u) Q E s:=by
 obtain⟨mA,O,r,wi,_,ho⟩:=zfs I.hok e;have hz:(fs.map (·.1)).length<=sizeLine:=by rw[z56,z6p];omega
 refine zt8 I.kIn O c.sa c.po n.taker c.hd wi hz fun h' O' sb=>h _ ?_;have hd:∃o,h'.get? dx=some o:=let⟨o,_,_,e',_⟩:=O'.ns;⟨o,e'⟩;refine I.write (x:=a) (e:=dx) (by rw[e];exact True.intro) (.inr ho) (fun b q hb z=>(sb.2 b hb).trans z) hd ?_;refine⟨by rw[z0 O.ne];exact ho,?_,O.ne,O'.obj,_,O'.ns,fun g=>?_,fun g hg=>?_⟩
 · have:=zdi f y fs;omega
 · show RelO ((zec f y fs).lookup g) (if g=f then some u else mA g);rw[zdf];by_cases q:g=f
   · rw[z5g q,z5g q];exact ry
   · rw[z5n q,z5n q];exact r g
 · by_cases q:g=f
   · rw[q];exact(zdm f y fs).1
   · refine(zdm f y fs).2 g (wi g fun z=>hg ?_);show(if g=f then some u else mA g)=none;rw[z5n q];exact z
theorem Inv.made(I:Inv X pins σ H s):Inv X pins σ (upd (upd H s.heap.objs.size (.own (s.heap.objs.size+1))) (s.heap.objs.size+1) (.ins C s.heap.objs.size []))
   { s with heap:=(s.heap.push PySem.W.emptyDict).push (PySem.W.instObj C s.heap.objs.size) }:=by
 have e1:(s.heap.push PySem.W.emptyDict).get? s.heap.objs.size=some PySem.W.emptyDict:=z5s s.heap rfl;have e2:((s.heap.push PySem.W.emptyDict).push (PySem.W.instObj C s.heap.objs.size)).get? (s.heap.objs.size+1)=some (PySem.W.instObj C s.heap.objs.size):=by
   have:=z5s (s.heap.push PySem.W.emptyDict) (o:=PySem.W.instObj C s.heap.objs.size) rfl
   rwa [z9z]at this
 have e3:(s.heap.push PySem.W.emptyDict).Ns s.heap.objs.size (fun _=>none):=⟨PySem.W.emptyDict,#[],_,e1,rfl,(fun e he=>absurd he (by simp)),fun _=>rfl⟩
 have I1:=I.laid (a:=s.heap.objs.size) (o:=.own (s.heap.objs.size+1)) (h':=s.heap.push PySem.W.emptyDict) (t':=s.toks) (fun b u q=>z4z _ q) (z4v _) ⟨_,e1⟩;refine I1.laid (a:=s.heap.objs.size+1) (o:=.ins C s.heap.objs.size []) (t':=s.toks) (fun b u q=>z4z _ q) (Nat.le_of_eq (z9z _ _)) ?_;have ne:s.heap.objs.size≠s.heap.objs.size+1:=z5h (z99 _);refine⟨by rw[z0 ne,qg],z5y _,ne,e2,fun _=>none,(Heap.Ns1.of_empty e3).at fun o q=>z4z _ q,fun _=>True.intro,fun y hy=>absurd rfl hy⟩
theorem zvu{prog:Program}{w:World}{env:Env}{e:Expr}{f:Str}{pos:Pos}{s:Shared}{Q:zVP}(hb:attributeBase e f env (eval e env)=eval e env)
   (h:wpAny (model prog w) A (eval e env) (fun o s₁=>wpAny (model prog w) A (getAttr o f true) Q E s₁) E s):wpAny (model prog w) A (eval (.Attribute e f pos) env) Q E s :=
 Attribute_any_ h (by rw[arm_eval_Attribute,hb])
end
def z3t(K:zFr)(ta:TE)(f:Str):TE:=fun σ H Q=>ta σ H fun x H1=>∃a C dx fs v,x=.ref a/\H1 a=some (.ins C dx fs)/\Cls K C/\NoAttr K C f/\fs.lookup f=some v/\Q v H1
def z34(K:zFr)(ta tv:TE)(f:Str):TS:=fun D σ H=>tv σ H fun y H1=>ta σ H1 fun x H2=>∃a C dx fs,x=.ref a/\H2 a=some (.ins C dx fs)/\Cls K C/\NoAttr K C f/\fs.length<1000 /\
 D.nx σ (upd H2 a (.ins C dx (zec f y fs)))
section
variable {X:Cx}{o e value:Expr}{f:Str}{pos pos' tpos:Pos}{ta tv:TE}
theorem zxv(he:PE X e ta)(hb:attributeBase e f X.env (eval e X.env)=eval e X.env):PE X (.Attribute e f pos) (z3t X.K ta f):=by intro pins s σ H Q I h;refine zvu hb (thn (he pins s σ H _ I h) fun u s1 ⟨x,H1,I1,rx,a,C,dx,fs,v,ex,ea,c,n,l,q⟩=>?_);subst ex;obtain rfl:u=Value.ref a:=rx;exact zli I1 ea c n l fun u' s2 I2 ru=>⟨v,H1,I2,ru,q⟩
theorem zxk(ha:PE X o ta)(hv:PE X value tv)(hs:swapsWith value (some (.Attribute o f pos')) pos.line X.env=pure false):PS X (.Assign [.Attribute o f pos'] value pos) (z34 X.K ta tv f):=by intro pins s σ H D I h;refine plainObj_wpAny_Assign_Attribute (thn (hv pins s σ H _ I h) fun u s1 ⟨y,H1,I1,ry,q⟩=>thn (ha pins s1 σ H1 _ I1 q) fun ov s2 ⟨x,H2,I2,rx,a,C,dx,fs,ex,ea,c,n,l,q2⟩=>?_) hs;subst ex;obtain rfl:ov=Value.ref a:=rx;exact zku I2 ea c n l ry fun s3 I3=>⟨σ,_,I3,q2⟩
end
section
variable {X:Cx}{pins:zAO}{σ:St}{H:Hp}{s:Shared}{A:Around}{E:zVP}{Q:zVP}{c:Value}{b:Bool}
inductive TyOf (K:zFr) (H:Hp):V->Value->Prop where
 |non:TyOf K H .non (.type "NoneType")
 |bl (x:Bool):TyOf K H (.bl x) (.type "bool")
 |int (i:Int):TyOf K H (.int i) (.type "int")
 |str (x:Str):TyOf K H (.str x) (.type "str")
 |flt (x:UInt64):TyOf K H (.flt x) (.type "float")
 |lst {a:Addr}{xs:List V} (e:H a=some (.lst xs)):TyOf K H (.ref a) (.type "list")
 |frz {a:Addr}{o:Obj}{xs:List V} (e:H a=some (.frz o (.lst xs))):TyOf K H (.ref a) (.type "list")
 |tup {a:Addr}{xs:List V} (e:H a=some (.tup xs)):TyOf K H (.ref a) (.type "tuple")
 |dK {a:Addr}{kvs:List (Key×V)} (e:H a=some (.dK kvs)):TyOf K H (.ref a) (.type "dict")
 |dT {a:Addr}{kvs:List (List Key×V)} (e:H a=some (.dT kvs)):TyOf K H (.ref a) (.type "dict")
 |ins {a C dx:Addr}{fs:List (Str×V)} (e:H a=some (.ins C dx fs)) (cl:Cls K C) (ha:PySem.W.findIn K (.ref C) "__class__"=some (some (.builtin "object.__class__")))
     (hn:PySem.W.specialIn K (.builtin "object.__class__") "__get__"=some (some (.builtin "getset_descriptor.__get__"))) (htk:PySem.W.takesIn K (.builtin "object.__class__")=some true)
     (hm:PySem.W.mroIn K C (.type "object")=some true):TyOf K H (.ref a) (.ref C)
theorem znx{x:V}{u t:Value}(I:Inv X pins σ H s)(rx:RelV x u)(ty:TyOf X.K H x t)(e:PySem.W.kitOne X.K t c=some b)(h:∀tk,Q (.bool b) { s with toks:=tk }) :
   wpAny (model X.prog X.w) A (call (.builtin "isinstance") [u,c]) Q E s:=by
 cases ty with
 |non=>cases(show u=Value.none from rx);exact z6h PySem.W.kitx_none I.kIn True.intro e (fun z=>nomatch z) h
 |bl y=>cases(show u=Value.bool y from rx);exact z6h PySem.W.kitx_bool I.kIn True.intro e (fun z=>nomatch z) h
 |int i=>obtain⟨t,q⟩:=(show ∃t,u=Value.int i t from rx);cases q;exact z6h PySem.W.kitx_int I.kIn True.intro e (fun z=>nomatch z) h
 |str y=>obtain⟨t,q⟩:=(show ∃t,u=Value.str y t from rx);cases q;exact z6h PySem.W.kitx_str I.kIn True.intro e (fun z=>nomatch z) h
 |flt y=>obtain⟨t,q⟩:=(show ∃t,u=Value.float y t from rx);cases q;exact z6h PySem.W.kitx_float I.kIn True.intro e (fun z=>nomatch z) h
 | @lst a xs ea=>
   cases(show u=Value.ref a from rx);obtain⟨_,_,n,_,h1⟩:=(show ObjOk X.prog X.w H s.heap a (.lst xs)from I.hok a _ ea)
   exact z6h z93 I.kIn ⟨_,h1,rfl⟩ e (fun z=>nomatch z) h
 | @frz a ob xs ea=>
   cases(show u=Value.ref a from rx);obtain⟨_,_,_,n,_,h1⟩:=(show ObjOk X.prog X.w H s.heap a (.frz ob (.lst xs))from I.hok a _ ea)
   exact z6h z93 I.kIn ⟨_,h1,rfl⟩ e (fun z=>nomatch z) h
 | @tup a xs ea=>
   cases(show u=Value.ref a from rx);obtain⟨_,_,_,p⟩:=(show ObjOk X.prog X.w H s.heap a (.tup xs)from I.hok a _ ea)
   obtain⟨o,h1,h2,_⟩:=p;exact z6h PySem.W.kitx_tuple I.kIn ⟨o,h1,h2⟩ e (fun z=>nomatch z) h
 | @dK a kvs ea=>
   cases(show u=Value.ref a from rx);obtain⟨_,_,vs,_,p⟩:=(show ObjOk X.prog X.w H s.heap a (.dK kvs)from I.hok a _ ea)
   obtain⟨o,es,ep,h1,h2,_⟩:=p;exact z6h PySem.W.kitx_dict I.kIn ⟨o,h1,h2.1⟩ e (fun z=>nomatch z) h
 | @dT a kvs ea=>
   cases(show u=Value.ref a from rx);obtain⟨_,_,xs,_,o,es,ep,h1,h2,_⟩:=(show ObjOk X.prog X.w H s.heap a (.dT kvs)from I.hok a _ ea)
   exact z6h PySem.W.kitx_dict I.kIn ⟨o,h1,h2.1⟩ e (fun z=>nomatch z) h
 | @ins a C dx fs ea cl ha hn htk hm=>
   cases(show u=Value.ref a from rx);obtain⟨mA,O,_⟩:=zfs I.hok ea;obtain⟨od,J,_⟩:=O.look;exact z6h (PySem.W.kitx_own (cl.get _) cl.hd ha hn htk hm) I.kIn J e (fun z=>nomatch z) h
end
structure Room (k:Nat) (A:Around):Prop where
 hd:A.handled=none
 dp:A.depth+3*k+5<recursionLimit
 un:A.units+16*k+200<cLine
theorem Room.mono{j k:Nat}{A:Around}(r:Room k A)(h:j<=k):Room j A:=⟨r.hd,by have:=r.dp;omega,by have:=r.un;omega⟩
theorem Room.deeper{k:Nat}{A:Around}(r:Room (k+1) A)(env:Env):Room k (A.deeper env) :=
 ⟨r.hd,by have:=r.dp;show A.depth+1+3*k+5<_;omega,by have:=r.un;show A.units+3+16*k+200<_;omega⟩
theorem Room.in1{k:Nat}{A:Around}(r:Room (k+1) A):Room k A.in1 :=
 ⟨r.hd,by have:=r.dp;show A.depth+3*k+5<_;omega,by have:=r.un;show A.units+1+16*k+200<_;omega⟩
theorem zlc{A:Around}{C:Addr}{us:List Value}{kw:List (Str×Value)}:(A.under (.builtin "type.__call__" ⟨.ref C::us,kw⟩)).depth=A.depth+1:=by
 first | rfl | simp[Around.under,Code.weight,Code.isCreation,Code.isGuard,Code.isCaller,Code.frames,Code.isFrame,guardIds]
theorem zlb{A:Around}{C:Addr}{us:List Value}{kw:List (Str×Value)}:(A.under (.builtin "type.__call__" ⟨.ref C::us,kw⟩)).units=A.units+1:=by
 first | rfl | simp[Around.under,Code.cUnits,Code.frames,Code.isFrame]
theorem Room.make{k:Nat}{A:Around}(r:Room (k+1) A)(C:Addr)(us:List Value)(kw:List (Str×Value)):Room k (A.under (.builtin "type.__call__" ⟨.ref C::us,kw⟩)) :=
 ⟨r.hd,by have:=r.dp;rw[zlc];omega,by have:=r.un;rw[zlb];omega⟩
theorem Room.depth{k:Nat}{A:Around}(r:Room k A):A.depth<recursionLimit:=by have:=r.dp;omega
def z21:TA:=fun _ H Q=>Q [] H
def z1e(ta:TE)(tr:TA):TA:=fun σ H Q=>ta σ H fun x H1=>tr σ H1 fun xs H2=>Q (x::xs) H2
section
variable {X:Cx}{e:Expr}{es:List Expr}{te:TE}{t:TA}{pos:Pos}
theorem zng:PA X [] z21:=fun _ _ _ _ H Q I h=>Calls.spliced_nil ⟨[],H,I,.nil,h⟩
theorem zfk(ha:PE X e te)(hr:PA X es t)(hs:starEach (e::es) X.env=(false,eval e X.env)::starEach es X.env:=by rfl):PA X (e::es) (z1e te t):=by intro pos pins s σ H Q I h;rw[hs];show wpAny _ _ (spliced ((false,eval e X.env)::backTo pos (starEach es X.env))) _ _ s;refine z9t (thn (ha pins s σ H _ I h) fun u s1 ⟨x,H1,I1,r1,q1⟩=>?_);exact thn (hr pos pins s1 σ H1 _ I1 q1) fun us s2 ⟨xs,H2,I2,r2,q2⟩=>⟨x::xs,H2,I2,.cons r1 r2,q2⟩
def z3l(t:TA):TE:=fun σ H Q=>t σ H fun xs H1=>xs.length<=sizeLine/\∀p,H1 p=none->Q (.ref p) (upd H1 p (.tup xs))
def z3q(t:TA):TE:=fun σ H Q=>t σ H fun xs H1=>xs.length<=sizeLine/\∀p,H1 p=none->Q (.ref p) (upd H1 p (.lst xs))
theorem zxp{x1}(h:PA X es t):PE X (.Tuple es x1 pos) (z3l t):=by intro pins s σ H Q I hq;refine wpAny_Tuple_spliced (thn (h pos pins s σ H _ I hq) fun us s1 ⟨xs,H1,I1,r,z,q⟩=>⟨by rw[<-r.length];exact z,?_⟩);have hf:H1 s1.heap.objs.size=none:=I1.hok.fresh (z4v _);refine⟨.ref s1.heap.objs.size,upd H1 s1.heap.objs.size (.tup xs),I1.laid (t':=s1.toks) (fun b u e=>z4z _ e) (z4v _) ?_,rfl,q _ hf⟩;exact⟨z,us,r,⟨_,z5s _ rfl,rfl,_,rfl⟩⟩
theorem zsh(h:PA X es t):PE X (.List es pos) (z3q t):=by intro pins s σ H Q I hq;refine wpAny_List_spliced (thn (h pos pins s σ H _ I hq) fun us s1 ⟨xs,H1,I1,r,z,q⟩=>⟨by rw[<-r.length];exact z,?_⟩);have hf:H1 s1.heap.objs.size=none:=I1.hok.fresh (z4v _);refine⟨.ref s1.heap.objs.size,upd H1 s1.heap.objs.size (.lst xs),I1.laid (t':=s1.toks) (fun b u e=>z4z _ e) (z4v _) ?_,rfl,q _ hf⟩;exact⟨z,us,0,r,z5s _ rfl⟩
end
abbrev Sp:=List V->Hp->VK->XK->Prop
abbrev CXT:=List Env->Hp->Shared->XK->zVP
structure Env0 (P:Program) (w:World) (K:zFr) (mg:zMg) (base:Heap) (A:Around) (outer:List Env) (s:Shared) (H:Hp):Prop where
 frames:A.frames=some outer
 mod:Mod K mg base
 bs:∀b o,base.get? b=some o->s.heap.get? b=some o/\H b=none
 bsz:base.objs.size<=s.heap.objs.size
 funs:s.heap.FunFrames base outer
 frf:∀b∈frs outer,H b=none
 hok:HOk P w H s.heap
 bare:AllBare s.gens
def CE(outer:List Env)(P:Program)(w:World)(H:Hp)(s:Shared)(Q:VK)(u:Value)(s':Shared):Prop :=
 ∃v H',s'.os=s.os/\AllBare s'.gens/\Un (frs outer) [] H H' s.heap s'.heap/\HOk P w H' s'.heap/\RelV v u/\Q v H'
def CR(CX:CXT)(outer:List Env)(P:Program)(w:World)(H:Hp)(s:Shared)(Q:VK)(E:XK)(r:Result)(s':Shared):Prop :=
 match r with
 | .ok (.ret u)=>CE outer P w H s Q u s'
 | .ok _=>False
 | .error e=>CX outer H s E e s'
structure FnOk (P:Program) (w:World) (K:zFr) (mg:zMg) (base:Heap) (CX:CXT) (k:Nat) (f:Addr) (fd:FuncData) (ps:List Str) (sp:Sp):Prop where
 len:∀vs H Q E,sp vs H Q E->vs.length=ps.length
 run:∀(A:Around) (outer:List Env) (s:Shared) (H:Hp) (args:Args) (us:List Value) (vs:List V) (Q:VK) (E:XK),Room k A->Env0 P w K mg base A outer s H->BindsTo s fd args (ps.zip us)->Vals vs us->sp vs H Q E ->
   codeAny (model P w) A (.call (.ref f) args) (CR CX outer P w H s Q E) s
theorem FnOk.mono{P:Program}{w:World}{K:zFr}{mg:zMg}{base:Heap}{CX:CXT}{j k:Nat}{f:Addr}{fd:FuncData}{ps:List Str}{sp:Sp}(F:FnOk P w K mg base CX j f fd ps sp)(h:j<=k) :
   FnOk P w K mg base CX k f fd ps sp:=⟨F.len,fun A outer s H args us vs Q E hr=>F.run A outer s H args us vs Q E (hr.mono h)⟩
theorem FnOk.imp{P:Program}{w:World}{K:zFr}{mg:zMg}{base:Heap}{CX:CXT}{k:Nat}{f:Addr}{fd:FuncData}{ps:List Str}{sp sp':Sp}(F:FnOk P w K mg base CX k f fd ps sp)
   (h:∀vs H Q E,sp' vs H Q E->sp vs H Q E):FnOk P w K mg base CX k f fd ps sp' :=
 ⟨fun vs H Q E q=>F.len vs H Q E (h _ _ _ _ q),fun A outer s H args us vs Q E hr he hb hv hs=>F.run A outer s H args us vs Q E hr he hb hv (h _ _ _ _ hs)⟩
theorem Env0.make{P:Program}{w:World}{K:zFr}{mg:zMg}{base:Heap}{A:Around}{outer:List Env}{s:Shared}{H:Hp}(e:Env0 P w K mg base A outer s H)(C:Addr)(us:List Value)(kw:List (Str×Value)) :
   Env0 P w K mg base (A.under (.builtin "type.__call__" ⟨.ref C::us,kw⟩)) outer s H:=⟨by first | exact e.frames | (simpa [Around.under,Code.envs,Code.isFrame,pushEnvs] using e.frames),e.mod,e.bs,e.bsz,e.funs,e.frf,e.hok,e.bare⟩
theorem Env0.in1{P:Program}{w:World}{K:zFr}{mg:zMg}{base:Heap}{A:Around}{outer:List Env}{s:Shared}{H:Hp}(e:Env0 P w K mg base A outer s H) :
   Env0 P w K mg base A.in1 outer s H:=⟨e.frames,e.mod,e.bs,e.bsz,e.funs,e.frf,e.hok,e.bare⟩
section
variable {X:Cx}{pins:zAO}{σ:St}{H:Hp}{s s':Shared}
theorem Inv.env0(I:Inv X pins σ H s):Env0 X.prog X.w X.K X.mg X.base X.A X.stack s H :=
 ⟨I.ok.frames,I.ok.mod,I.bs,z5j I.ok.bsz I.sz,I.stack,I.stkFree,I.hok,I.bare⟩
theorem Inv.after{Q:VK}{u:Value}(I:Inv X pins σ H s)(h:CE X.stack X.prog X.w H s Q u s'):EP X pins σ Q u s':=by obtain⟨v,H',os,bare,un,hok,r,q⟩:=h;obtain⟨hh,g,d,t,os'⟩:=s';obtain rfl:os'=s.os:=os;exact⟨v,H',I.call (h':=hh) (g':=g) (d':=d) (t':=t) (ch:=[]) un hok bare (fun b z=>absurd z (by simp)),r,q⟩
end
def ztr(sp:Sp)(dvs:List V)(E:XK)(t:TA):TE:=fun σ H Q=>t σ H fun vs H1=>sp (vs++dvs) H1 Q E
def z1b(C:Addr)(m:Str)(sp:Sp)(dvs:List V)(E:XK)(ta:TE)(t:TA):TE:=fun σ H Q=>ta σ H fun x H1=>∃a dx fs,x=.ref a/\H1 a=some (.ins C dx fs)/\fs.lookup m=none /\
 t σ H1 fun vs H2=>sp (x::(vs++dvs)) H2 Q E
def zwn(C:Addr)(sp:Sp)(dvs:List V)(E:XK)(t:TA):TE:=fun σ H Q=>t σ H fun vs H1=>∀x dx,H1 x=none->H1 dx=none->dx≠x ->
 sp (.ref x::(vs++dvs)) (upd (upd H1 dx (.own x)) x (.ins C dx [])) (fun v H2=>v=.non/\Q (.ref x) H2) E
def Binds(K:zFr)(fd:FuncData)(ps:List Str)(ds:List Value):Prop :=
 ∀(s:Shared) (us:List Value),K.In s.heap->(us++ds).length=ps.length->BindsTo s fd ⟨us,[]⟩ (ps.zip (us++ds))
theorem Binds.all{K:zFr}{fd:FuncData}{ps:List Str}(h:∀us:List Value,us.length=ps.length->bindArgs fd ⟨us,[]⟩=pure (ps.zip us)):Binds K fd ps []:=fun s us _ hl=>by rw[z5q]at hl ⊢;exact .of_eq (h us hl)
def zeb(CX:CXT)(X:Cx)(E:XK):Prop:=∀(pins:zAO) (σ:St) (H:Hp) (s:Shared) (e:Value) (s':Shared),Inv X pins σ H s->CX X.stack H s E e s'->X.xe e s'
section
variable {X:Cx}{CX:CXT}{k:Nat}{f C:Addr}{fd:FuncData}{ps:List Str}{sp:Sp}{dvs:List V}{ds:List Value}{E:XK}{x m:Str}{p pos apos:Pos}{e o:Expr}{es:List Expr}{ta:TE}{t:TA}
theorem zgq{pins:zAO}{σ:St}{H:Hp}{s:Shared}{Q:VK}{us:List Value}{vs:List V}(F:FnOk X.prog X.w X.K X.mg X.base CX k f fd ps sp)(hr:Room k X.A)(hb:Binds X.K fd ps ds)(hd:Vals dvs ds)(hx:zeb CX X E)
   (I:Inv X pins σ H s) (r:Vals vs us) (h:sp (vs++dvs) H Q E):wpAny (model X.prog X.w) X.A (call (.ref f) us) (EP X pins σ Q) X.xe s:=by
 have r2:Vals (vs++dvs) (us++ds):=r.append hd;have hl:(us++ds).length=ps.length:=by rw[<-r2.length];exact F.len _ _ _ _ h
 refine z9i (z8p (F.run X.A X.stack s H ⟨us,[]⟩ (us++ds) (vs++dvs) Q E hr I.env0 (hb s us I.kIn hl) r2 h) fun r s' hq=>?_);cases r with
 |error e=>exact hx pins σ H s e s' I hq
 | ok fl=>
   cases fl with
   |ret u=>exact I.after hq
   |next=>exact False.elim hq
   |brk=>exact False.elim hq
   |cont=>exact False.elim hq
theorem zup(F:FnOk X.prog X.w X.K X.mg X.base CX k f fd ps sp)(hr:Room k X.A)(hg:Gl X x)(hm:X.mg x=some (.ref f))(hk:PySem.W.keepIn X.K (.ref f)=true)(hb:Binds X.K fd ps ds)(hd:Vals dvs ds)(hx:zeb CX X E)
   (ha:PA X (e::es) t) (hdb:(x==("__debug__":Str))=false:=by decide) (he:starEach (e::es) X.env=(false,eval e X.env)::starEach es X.env:=by rfl) (hpl:(backTo pos (starEach es X.env)).any (·.1)=false:=by rfl) :
   PE X (.Call (.Name x p) (e::es) [] pos) (ztr sp dvs E t):=by
 intro pins s σ H Q I h;refine z6n (zas I hg hm ?_ hdb);refine z7r (h₀:=X.base) I.ok.mod.kin hk (thn (ha pos pins s σ H _ I h) fun us s1 ⟨vs,H1,I1,r,q⟩=>⟨I1.kIn,?_⟩) he hpl;exact zgq F hr hb hd hx I1 r q
theorem zun{pl:Sem Bool}(he:PE X o ta)(c:Cls X.K C)(hm:Meth X.K C m f)(F:FnOk X.prog X.w X.K X.mg X.base CX k f fd ps sp)(hr:Room k X.A)(hb:Binds X.K fd ps ds)(hd:Vals dvs ds)(hx:zeb CX X E)(ha:PA X (e::es) t)
   (hst:starEach (e::es) X.env=(false,eval e X.env)::starEach es X.env:=by rfl) (hpl:(backTo pos (starEach es X.env)).any (·.1)=false:=by rfl)
   (ht:eval (.Call (.Attribute o m apos) (e::es) [] pos) X.env=(do
     let ov <-eval o X.env
     standAt apos.atName
     let(f,first) <-holding [ov] (getMethod ov m pl)
     callWith pos f first (backTo pos (starEach (e::es) X.env)) (backToKw pos (keywordEach [] X.env))):=by rfl) :
   PE X (.Call (.Attribute o m apos) (e::es) [] pos) (z1b C m sp dvs E ta t):=by
 intro pins s σ H Q I h;refine PySem.W.methodCall_KW (pl:=pl) (thn (he pins s σ H _ I h) fun u s1 ⟨x,H1,I1,rx,a,dx,fs,ex,ea,l,q⟩=>?_) ht;subst ex;obtain rfl:u=Value.ref a:=rx;refine zlh I1 ea c hm l ?_;refine z7r (first:=[.ref a]) (h₀:=X.base) I.ok.mod.kin hm.kp (thn (ha pos pins s1 σ H1 _ I1 q) fun us s2 ⟨vs,H2,I2,r,q2⟩=>⟨I2.kIn,?_⟩) hst hpl;exact zgq (us:=.ref a::us) (vs:=.ref a::vs) F hr hb hd hx I2 (.cons rfl r) q2
structure Mk (K:zFr) (C f:Addr):Prop where
 makes:PySem.W.makesIn K C=true
 init:PySem.W.findIn K (.ref C) "__init__"=some (some (.ref f))
 fn:PySem.W.isFn K (.ref f)=true
 kp:PySem.W.keepIn K (.ref C)=true
theorem zpu{pins:zAO}{σ:St}{H:Hp}{s:Shared}{Q:VK}{us:List Value}{vs:List V}(M:Mk X.K C f)(F:FnOk X.prog X.w X.K X.mg X.base CX k f fd ps sp)(hr:Room (k+1) X.A)(hb:Binds X.K fd ps ds)(hd:Vals dvs ds)
   (hx:zeb CX X E) (I:Inv X pins σ H s) (r:Vals vs us)
   (h:∀x dx,H x=none->H dx=none->dx≠x->sp (.ref x::(vs++dvs)) (upd (upd H dx (.own x)) x (.ins C dx [])) (fun v H2=>v=.non/\Q (.ref x) H2) E) :
   wpAny (model X.prog X.w) X.A (call (.ref C) us) (EP X pins σ Q) X.xe s:=by
 have hq:=h (s.heap.objs.size+1) s.heap.objs.size (I.hok.fresh (z97 _)) (I.hok.fresh (z4v _)) (z5h (z99 _));have I2:=Inv.made (C:=C) I;have r2:Vals (V.ref (s.heap.objs.size+1)::(vs++dvs)) (Value.ref (s.heap.objs.size+1)::(us++ds)):=.cons rfl (r.append hd);have hl:(Value.ref (s.heap.objs.size+1)::us++ds).length=ps.length:=by have e:=r2.length;rw[F.len _ _ _ _ hq]at e;exact e.symm
 refine z9i (zqn (f:=f) I.kIn M.makes M.init (z7q.mp M.fn) (z8p (F.run _ X.stack _ _ ⟨Value.ref (s.heap.objs.size+1)::us,[]⟩ (Value.ref (s.heap.objs.size+1)::(us++ds)) _ _ E (hr.make C us [])
   (I2.env0.make C us []) (hb _ (Value.ref (s.heap.objs.size+1)::us) I2.kIn hl) r2 hq) fun r s' hq'=>?_))
 cases r with
 |error e=>exact hx pins σ _ _ e s' I2 hq'
 | ok fl=>
   cases fl with
   | ret u=>
     obtain⟨v,H',I3,rv,ev,q3⟩:=I2.after hq';subst ev;exact⟨rv,⟨V.ref (s.heap.objs.size+1),H',I3,rfl,q3⟩⟩
   |next=>exact False.elim hq'
   |brk=>exact False.elim hq'
   |cont=>exact False.elim hq'
theorem zqd(M:Mk X.K C f)(F:FnOk X.prog X.w X.K X.mg X.base CX k f fd ps sp)(hr:Room (k+1) X.A)(hg:Gl X x)(hm:X.mg x=some (.ref C))(hb:Binds X.K fd ps ds)(hd:Vals dvs ds)(hx:zeb CX X E)
   (hdb:(x==("__debug__":Str))=false:=by decide):PE X (.Call (.Name x p) [] [] pos) (zwn C sp dvs E z21):=by
 intro pins s σ H Q I h;refine z6n (zas I hg hm ?_ hdb);exact PySem.W.callWith_K0 I.kIn M.kp (zpu (us:=[]) M F hr hb hd hx I .nil h)
end
structure FnScope (N P:List Str) (sc:Scope):Prop where
 kind:sc.kind=.function
 co:sc.isCoroutine=false
 gen:sc.isGenerator=false
 nd:N.Nodup
 pre:N.take P.length=P
 par:∀x∈P,sc.names.lookup x=some .local\/sc.names.lookup x=some .cell
 nofree:∀y∈sc.names,y.2≠.free
theorem zhl{kindOf:Str->Option NameKind}{x:Str}:∀{binds:List (Str×Value)}{m:zMg},(∀v,(x,v)∉binds)->bindL kindOf binds m x=m x
 | [],_,_=>rfl
 | (n,v)::r,m,h=>by
   unfold bindL;rw[zhl fun w hw=>h w (z40 _ hw)];split
   · have:x≠n:=by rintro rfl;exact h v z5c
     simp[this]
   · rfl
theorem zhn{kindOf:Str->Option NameKind}{x:Str}:∀{binds:List (Str×Value)}{m:zMg},(∀v,(x,v)∉binds)->bindC kindOf binds m x=m x
 | [],_,_=>rfl
 | (n,v)::r,m,h=>by
   unfold bindC;rw[zhn fun w hw=>h w (z40 _ hw)];split
   · rfl
   · have:x≠n:=by rintro rfl;exact h v z5c
     simp[this]
theorem zhm{kindOf:Str->Option NameKind}{x:Str}{v:Value}:∀{P:List Str}{vs:List Value}{i:Nat}{m:zMg},P.Nodup->P[i]? = some x->vs[i]? = some v->kindOf x=some .local ->
   bindL kindOf (P.zip vs) m x=some v
 | [],_,_,_,_,h,_,_=>by simp at h
 |_::_,[],_,_,_,_,h,_=>by simp at h
 | p::P,w::vs,0,m,nd,h1,h2,hk=>by simp at h1 h2;subst h1;subst h2;show bindL kindOf ((p,w)::P.zip vs) m p=_;unfold bindL;rw[zhl fun v hv=>(z7l.mp nd).1 (z7m hv).1,z5g hk];simp
 | p::P,w::vs,i+1,m,nd,h1,h2,hk=>by show bindL kindOf ((p,w)::P.zip vs) m x=_;unfold bindL;exact zhm (i:=i) (z7l.mp nd).2 (by simpa using h1) (by simpa using h2) hk
theorem zho{kindOf:Str->Option NameKind}{x:Str}{v:Value}:∀{P:List Str}{vs:List Value}{i:Nat}{m:zMg},P.Nodup->P[i]? = some x->vs[i]? = some v->kindOf x≠some .local ->
   bindC kindOf (P.zip vs) m x=some v
 | [],_,_,_,_,h,_,_=>by simp at h
 |_::_,[],_,_,_,_,h,_=>by simp at h
 | p::P,w::vs,0,m,nd,h1,h2,hk=>by simp at h1 h2;subst h1;subst h2;show bindC kindOf ((p,w)::P.zip vs) m p=_;unfold bindC;rw[zhn fun v hv=>(z7l.mp nd).1 (z7m hv).1,z5n hk];simp
 | p::P,w::vs,i+1,m,nd,h1,h2,hk=>by show bindC kindOf ((p,w)::P.zip vs) m x=_;unfold bindC;exact zho (i:=i) (z7l.mp nd).2 (by simpa using h1) (by simpa using h2) hk
def start(N:List Str)(vs:List V):St:=vs.map some++List.replicate (N.length-vs.length) none
def zbp(CX:CXT)(P:Program)(w:World)(K:zFr)(mg:zMg)(base:Heap)(N:List Str)(qual:Str)(scope:Scope)(f:Addr)(cd:Value)(A:Around)(outer:List Env)(s:Shared)(H:Hp)(E:XK):Cx where
 prog:=P
 w:=w
 K:=K
 mg:=mg
 base:=base
 A:=A.deeper (envOfC qual scope s.heap.objs.size f cd)
 N:=N
 s₀:=s
 H₀:=H
 env:=envOfC qual scope s.heap.objs.size f cd
 outer:=outer
 stack:=envOfC qual scope s.heap.objs.size f cd::outer
 ex:=[]
 calm:=true
 fn:=fun _=>true
 pn:=[]
 xe:=fun e s'=>wpAny (model P w) (A.deeper (envOfC qual scope s.heap.objs.size f cd)) (leaving (envOfC qual scope s.heap.objs.size f cd) e) (fun _ s''=>CX outer H s E e s'') (fun e' s''=>CX outer H s E e' s'') s'
theorem zkk{sc:Scope}{n:Nat}{x:Str}(h:sc.names.lookup x=some .cell):∃c,(cellsFrom n sc.names []).lookup x=some c:=by have q:=PySem.W.cellsFrom_some sc.names n [] (.inl h);exact z7a.mp q
theorem zg0{CX:CXT}{P:Program}{w:World}{K:zFr}{mg:zMg}{base:Heap}{N ps:List Str}{qual:Str}{scope:Scope}{f:Addr}{cd:Value}{A:Around}{outer:List Env}{s s1:Shared}{H:Hp}{E:XK}{us:List Value}{vs:List V}
   (S:FnScope N ps scope) (hd:A.handled=none) (e0:Env0 P w K mg base A outer s H) (hl:vs.length=ps.length) (r:Vals vs us)
   (x:InCallC s s.heap.objs.size (bindL (envOfC qual scope s.heap.objs.size f cd).kindOf (ps.zip us) fun _=>none) (cellsFrom (s.heap.objs.size+1) scope.names []) (bindC (envOfC qual scope s.heap.objs.size f cd).kindOf (ps.zip us) fun _=>none) s1) :
   Inv (zbp CX P w K mg base N qual scope f cd A outer s H E) [] (start N vs) H s1:=by
 have hpl:ps.length<=N.length:=by have:=z64 List.length S.pre;rw[z49]at this;omega
 obtain⟨h1,tk,rfl,hk⟩:=x.done;have noA:∀b:Addr,b∉(zbp CX P w K mg base N qual scope f cd A outer s H E).ex:=fun b z=>absurd (show b∈([]:List Addr)from z) (by simp);refine⟨⟨e0.mod,S.kind,rfl,rfl,z4v _,fun y z c h1 h2=>?_,fun y hy=>?_,fun y c _ h=>?_,fun _=>hd,Around.frames_deeper e0.frames,.inr ⟨rfl,rfl⟩,fun b z=>absurd z (noA b),e0.bs,e0.bsz,fun b _ _=>noA b,fun b z=>absurd z (noA b),e0.funs,e0.frf⟩,
   rfl,e0.bare,Un.kept hk,⟨_,x.toInCall.ns,fun i y v h1 h2 h3=>?_⟩,fun y c h=>⟨_,x.cell y c h⟩,e0.hok.fresh (z4v _),fun y c h=>?_,fun p hp=>absurd (show p∈([]:zAO)from hp) (by simp),e0.hok.kept hk,?_⟩
 · exact name_of_addr x.apart (z65 h1) (z65 h2)
 · have hy:scope.names.lookup y=some .cell\/scope.names.lookup y=some .free:=hy;rcases hy with hy | hy
   · exact zkk hy
   · exact absurd rfl (S.nofree _ (z65 hy))
 · exact z6u (x.above y c (z65 h))
 · have hi:i<vs.length:=by
     unfold start at h2;by_cases hi:i<vs.length
     · exact hi
     · rw[z5i (by simpa using hi)]at h2;rw[List.getElem?_replicate]at h2;split at h2<;>cases h2
   have ha:vs[i]? = some v:=by
     unfold start at h2;rw[z5v (by simpa using hi),z54]at h2;cases e:vs[i]? with
     |none=>rw[e]at h2;cases h2
     |some a=>rw[e]at h2;cases h2;rfl
   obtain⟨u,hu,rv⟩:=r.get ha;have hp:ps[i]? = some y:=by rw[<-S.pre,z7w (by omega)];exact h1
   have ndP:ps.Nodup:=by rw[<-S.pre];exact S.nd.sublist (z84 _ _)
   refine⟨u,rv,?_⟩;rcases S.par y (z5t hp)with k | k
   · exact .inl ⟨k,zhm ndP hp hu k⟩
   · obtain⟨c,e⟩:=zkk (n:=s.heap.objs.size+1) k;refine .inr ⟨.inl k,c,e,?_⟩;have q:=x.cell y c e;rw[zho ndP hp hu (by show scope.names.lookup y≠_;rw[k];decide)]at q;exact q
 · exact e0.hok.fresh (z6u (x.above y c (z65 h)))
 · unfold start;show _=N.length;rw[z4t,z56,List.length_replicate];omega
theorem zqy{CX:CXT}{P:Program}{w:World}{K:zFr}{mg:zMg}{base:Heap}{k:Nat}{f:Addr}{name qual:Str}{params:Arguments}{body:List Stmt}{scope:Scope}{dV kV doc pm cdv ct oc:Value}{an od:Option Addr}
   {osl:Array (Option Value)}{N ps:List Str}{sp:Sp} (lk:K.lookup f=some ⟨oc,od,.func (PySem.W.fnOf name qual params body scope dV kV doc pm an cdv ct),osl⟩) (hcd:PySem.W.codeIn K cdv qual=true) (S:FnScope N ps scope)
   (len:∀vs H Q E,sp vs H Q E->vs.length=ps.length)
   (hbody:∀(A:Around) (outer:List Env) (s:Shared) (H:Hp) (vs:List V) (Q:VK) (E:XK),Room k (A.deeper (envOfC qual scope s.heap.objs.size f cdv))->sp vs H Q E ->
     ∃t,PSs (zbp CX P w K mg base N qual scope f cdv A outer s H E) body t/\t { nx:=fun _ H'=>Q .non H',rt:=Q } (start N vs) H) :
   FnOk P w K mg base CX (k+1) f (PySem.W.fnOf name qual params body scope dV kV doc pm an cdv ct) ps sp:=by
 refine⟨len,fun A outer s H args us vs Q E hr e0 hb r hsp=>?_⟩;have hl:=len _ _ _ _ hsp;have KX:K.In s.heap:=e0.mod.kin.keeps fun b o e=>(e0.bs b o e).1;have lim:s.heap.NoLimit:=e0.mod.nolimit.keeps fun b o e=>(e0.bs b o e).1;have hkind:∀y∈ps.zip us,scope.names.lookup y.1=some .local\/(scope.names.lookup y.1=some .cell/\((cellsFrom (s.heap.objs.size+1) scope.names []).lookup y.1).isSome=true):=fun⟨n,v⟩ hy=>by
   rcases S.par n (z7m hy).1 with q | q
   · exact .inl q
   · exact .inr ⟨q,PySem.W.cellsFrom_some _ _ _ (.inl q)⟩
 refine codeAny_call_function hr.depth (KX _ _ lk) rfl S.co S.gen rfl (PySem.W.codeRec_of KX hcd) (hb _ _ _ _ ?_);refine wpAny_newFunctionEnv_cells S.kind hkind fun env he s1 x=>?_;subst he;refine⟨lim.keeps x.toInCall.keep,codeAny_func ?_⟩;obtain⟨t,ht,hq⟩:=hbody A outer s H vs Q E (hr.deeper _) hsp;have I:Inv (zbp CX P w K mg base N qual scope f cdv A outer s H E) [] (start N vs) H s1:=zg0 S hr.hd e0 hl r x;refine z69 (ht [] s1 (start N vs) H _ I hq) (fun fl s' hs=>?_) fun e s' hs=>hs;have fin:∀{σ':St}{H':Hp}{v:V}{u:Value},Inv (zbp CX P w K mg base N qual scope f cdv A outer s H E) [] σ' H' s'->RelV v u->Q v H'->CE outer P w H s Q u s' :=
   fun {σ' H' v u} J rv q=>⟨v,H',J.os,J.bare,J.base,J.hok,rv,q⟩
 cases fl with
 | ret u=>
   obtain⟨v,σ',H',J,rv,q⟩:=hs;exact fin J rv q
 | next=>
   obtain⟨σ',H',J,q⟩:=hs;exact fin (v:=V.non) (u:=Value.none) J rfl q
 | brk=>
   obtain⟨_,_,_,q⟩:=hs;exact False.elim q
 | cont=>
   obtain⟨_,_,_,q⟩:=hs;exact False.elim q
section
variable {X:Cx}{x:Str}{p pos:Pos}{e:Expr}{es:List Expr}{t:TA}{id T:String}{r:List V->Hp->VK->Prop}
def tCB(r:List V->Hp->VK->Prop)(t:TA):TE:=fun σ H Q=>t σ H fun vs H1=>r vs H1 Q
theorem zqf(hc:CallR X (.builtin id) r)(hg:Gl X x)(hm:X.mg x=none)(hv:bootBuiltins x=some (.builtin id))(ha:PA X (e::es) t)(hn:x≠"__name__":=by decide)(hdb:(x==("__debug__":Str))=false:=by decide)
   (he:starEach (e::es) X.env=(false,eval e X.env)::starEach es X.env:=by rfl) (hpl:(backTo pos (starEach es X.env)).any (·.1)=false:=by rfl):PE X (.Call (.Name x p) (e::es) [] pos) (tCB r t):=by
 intro pins s σ H Q I h;refine z6n (zdk I hg hm hv ?_ hn hdb);exact PyProof.Rows.callWith_builtin1 (thn (ha pos pins s σ H _ I h) fun us s1 ⟨vs,H1,I1,r1,q1⟩=>hc pins s1 σ H1 vs us Q I1 r1 q1) he hpl
theorem zgu(hc:CallR X (.type T) r)(hg:Gl X x)(hm:X.mg x=none)(hv:bootBuiltins x=some (.type T))(ha:PA X (e::es) t)(hn:x≠"__name__":=by decide)(hdb:(x==("__debug__":Str))=false:=by decide)
   (he:starEach (e::es) X.env=(false,eval e X.env)::starEach es X.env:=by rfl) (hpl:(backTo pos (starEach es X.env)).any (·.1)=false:=by rfl):PE X (.Call (.Name x p) (e::es) [] pos) (tCB r t):=by
 intro pins s σ H Q I h;refine z6n (zdk I hg hm hv ?_ hn hdb);exact z7k (thn (ha pos pins s σ H _ I h) fun us s1 ⟨vs,H1,I1,r1,q1⟩=>hc pins s1 σ H1 vs us Q I1 r1 q1) he hpl
end
end L2
namespace HT
open PySem PyProof.Rows
theorem eqAt_int(A:Around)(s:Shared)(a:Int)(t:Tok)(c:Int)(u:Tok):∃e,SeqAt.EqAt A s (.int a t) (.int c u) e/\(e=true↔a=c) :=
 ⟨(a==c),SeqAt.EqAt.int_int a t c u,by simp⟩
theorem rcLt_int(A:Around)(s:Shared)(a:Int)(t:Tok)(c:Int)(u:Tok)(prog:Program)(w:World)(E:zVP)(Q:zVP)(h:Q (.bool (decide (a<c))) s) :
   wpAny (model prog w) A (richCompare .Lt (.int a t) (.int c u)) Q E s :=
 (PyProof.Rows.lt_int h:wpAny (model prog w) A (compareOp .Lt (.int a t) (.int c u)) Q E s)
section
open PySem.SeqAt
open PySem.AutoSeq1 (wpAny_loadPart')
open PySem.MeetsSeq PySem.MeetsSeq2 PySem.MeetsSeq3
end
section
variable {prog:Program}{w:World}{A:Around}{E:zVP}{s:Shared}
theorem cat_tup{t b:Addr}{vs ws:List Value}{Q:zVP}(ht:IsTup s.heap t vs.toArray)(hb:IsTup s.heap b ws.toArray)(hv:vs≠[])
   (h1:ws=[]->Q (.ref t) s) (h2:ws≠[]->Q (.ref s.heap.objs.size) { s with heap:=s.heap.push { cls:=.type "tuple",data:=.seq (vs++ws).toArray } })
   (hsz:vs.length+ws.length<=sizeLine):wpAny (model prog w) A (binaryOp .Add (.ref t) (.ref b)) Q E s:=by
 obtain⟨⟨cls,dd,data,sl⟩,ho,hc,n,hd⟩:=id ht;obtain⟨⟨cls2,dd2,data2,sl2⟩,ho2,hc2,n2,hd2⟩:=id hb;simp only at hc hd hc2 hd2;subst hc hd hc2 hd2;have e:vs.toArray++ws.toArray=(vs++ws).toArray:=by simp
 by_cases hw:ws=[]
 · exact qab ⟨_,ho,rfl⟩ ⟨_,ho2,rfl⟩ noFill_tuple_add seq_tuple_add z8z z8u (z8q _ _)
     (tuple_addW1 t b vs.toArray ws.toArray n n2 dd dd2 sl sl2 (by simpa using hv) (by simp[hw])) ⟨ho,ho2,h1 hw⟩
 · refine qab ⟨_,ho,rfl⟩ ⟨_,ho2,rfl⟩ noFill_tuple_add seq_tuple_add z8z z8u (z8q _ _)
     (tuple_addW2 t b vs.toArray ws.toArray n n2 dd dd2 sl sl2 (by simpa using hv) (by simpa using hw) (by rw[z45,z45];exact hsz)) ⟨ho,ho2,?_⟩
   rw[e];exact h2 hw
def sIx(n d:Nat):Option Int->Nat
 |none=>d
 |some v=>if v<0 then (v+(n:Int)).toNat else min v.toNat n
theorem zw2(n d:Nat)(hd:d<=n)(o:Option Int):sIx n d o<=n:=by
 cases o with
 |none=>exact hd
 | some v=>
   show(if v<0 then (v+(n:Int)).toNat else min v.toNat n)<=n;by_cases hv:v<0
   · rw[z5g hv];omega
   · rw[z5n hv];exact Nat.min_le_right _ _
theorem zo0(v:Int)(n d:Nat):(if v<0 then max (v+(n:Int)) 0 else min v (n:Int))=((sIx n d (some v):Nat):Int):=by
 show(if v<0 then max (v+(n:Int)) 0 else min v (n:Int))=(((if v<0 then (v+(n:Int)).toNat else min v.toNat n):Nat):Int)
 by_cases hv:v<0
 · simp only[z5g hv];omega
 · simp only[z5n hv];omega
theorem zlw(lo hi:Option Int)(n:Nat):Builtin.Slice.sliceAdjust lo hi 1 (n:Int)=(((sIx n 0 lo:Nat):Int),((sIx n n hi:Nat):Int)):=by
 have h1:¬ ((1:Int)<0):=by omega
 unfold Builtin.Slice.sliceAdjust;simp only[h1,z6b];refine Prod.ext ?_ ?_
 · cases lo with
   |none=>rfl
   |some v=>exact zo0 v n 0
 · cases hi with
   |none=>rfl
   |some v=>exact zo0 v n n
theorem zk2(i j:Nat):Builtin.Slice.slicePlaces (i:Int) (j:Int) 1=j-i:=by
 unfold Builtin.Slice.slicePlaces;have h1:(1:Int)>0:=by omega
 simp only[h1,z6s,Int.ediv_one];split<;>omega
theorem zep{v:Value}{o:Option Int}{Q:Option Int->Shared->Prop}(p:IsPart v o)(h:Q o s):wpAny (model prog w) A (Builtin.Slice.slicePartIndex v) Q E s:=by
 cases p with
 |none=>exact slicePart_none h
 |int i t=>exact slicePart_int h
theorem zcp{sl:Addr}{vl vu:Value}{lo hi:Option Int}{n:Nat}{Q:Int×Int×Nat->Shared->Prop}(hs:s.heap.IsSliceOf sl vl vu .none)(pl:IsPart vl lo)(pu:IsPart vu hi)
   (h:Q (((sIx n 0 lo:Nat):Int),1,sIx n n hi-sIx n 0 lo) s):wpAny (model prog w) A (Builtin.Slice.sliceApplied (.ref sl) (pure (n:Int))) Q E s:=by
 obtain⟨os,hos,hcs,hds⟩:=id hs;unfold Builtin.Slice.sliceApplied Builtin.Slice.sliceFields;refine z4u (z4u (wpAny_field hos hds (x:=vl) rfl (z4u (wpAny_field hos hds (x:=vu) rfl (z4u (wpAny_field hos hds (x:=.none) rfl (z5e ?_)))))));refine z4u (slicePart_none ?_);show wpAny _ _ (if((1:Int)==0)=true then _ else _) _ _ s;rw[z5n (by decide)];refine z4u (zep pl (z4u (zep pu (z4u (z5e ?_)))));show wpAny _ _ (match Builtin.Slice.sliceAdjust lo hi 1 (n:Int)with | (lo,hi)=>pure (lo,(1:Int),Builtin.Slice.slicePlaces lo hi 1)) _ _ s;rw[zlw lo hi n];show wpAny _ _ (pure (((sIx n 0 lo:Nat):Int),(1:Int),Builtin.Slice.slicePlaces ((sIx n 0 lo:Nat):Int) ((sIx n n hi:Nat):Int) 1)) _ _ s;rw[zk2];exact z5e h
theorem zqc(xs:Array Value)(i k:Nat):((List.range k).filterMap fun(m:Nat)=>xs[((i:Int)+(m:Int)*1).toNat]?).toArray=((xs.toList.drop i).take k).toArray:=by
 have e:(fun(m:Nat)=>xs[((i:Int)+(m:Int)*1).toNat]?)=fun m=>xs[i+m]?:=by
   funext m;have:((i:Int)+(m:Int)*1).toNat=i+m:=by omega
   rw[this]
 rw[e];have:=pick_run xs i k;rw[List.filterMap_map]at this;have e2:((fun x=>xs[x]?)∘fun x=>i+x)=fun m=>xs[i+m]?:=rfl;rw[e2]at this;rw[this]
theorem getItem_tuple_cut{t sl:Addr}{items:Array Value}{vl vu:Value}{lo hi:Option Int}{Q:zVP}(ht:IsTup s.heap t items)(hs:s.heap.IsSliceOf sl vl vu .none)(pl:IsPart vl lo)(pu:IsPart vu hi)
   (hw:¬ (sIx items.size 0 lo=0/\sIx items.size items.size hi=items.size))
   (h:Q (.ref s.heap.objs.size) { s with heap:=s.heap.push { cls:=.type "tuple",data:=.seq ((items.toList.drop (sIx items.size 0 lo)).take (sIx items.size items.size hi-sIx items.size 0 lo)).toArray } })
   (hsz:items.size<=sizeLine):wpAny (model prog w) A (getItem (.ref t) (.ref sl)) Q E s:=by
 have htake:sizeOk (.seq ((items.toList.drop (sIx items.size 0 lo)).take (sIx items.size items.size hi-sIx items.size 0 lo)).toArray):=by show((items.toList.drop (sIx items.size 0 lo)).take (sIx items.size items.size hi-sIx items.size 0 lo)).toArray.size<=sizeLine;rw[z45,z49,z5o,Array.length_toList];omega
 have hj:sIx items.size items.size hi<=items.size:=zw2 _ _ (z4v _) hi;obtain⟨os,hos,hcs,hds⟩:=id hs;have hTs:s.TypeIs (.ref sl) "slice":=⟨os,hos,hcs⟩
 unfold getItem
 try with_reducible refine wpAny_holding ?_
 first | refine z4u (z5e ?_) | skip
 refine z4u (wpAny_sequenceKey ht.typeIs (by decide) ?_);refine z4u (wpAny_callSpecial?_slot (name:=Str.ofString "__getitem__") ht.typeIs z7x
   (wpAny_call_entry z7x ht.typeIs entry_tuple_getitem ?_ (args_tuple_getitem _ _)))
 show wpAny _ _ (Builtin.Tuple.tupleItemsOf (.ref t) >>= _) _ _ s;refine z4u (tupleItemsOf_ ht ?_);refine z4u (wpAny_typeOf hTs ?_);rw[z5g (by decide)];refine z4u (zcp hs pl pu ?_);have hno:¬ ((((sIx items.size 0 lo:Nat):Int)==0&&(1:Int)==1&&(sIx items.size items.size hi-sIx items.size 0 lo)==items.size)=true):=by intro q;rw[z50,z50]at q;have q1:((sIx items.size 0 lo:Nat):Int)=0:=eq_of_beq q.1.1;have q2:sIx items.size items.size hi-sIx items.size 0 lo=items.size:=eq_of_beq q.2;exact hw ⟨by omega,by omega⟩
 show wpAny _ _ (if(((sIx items.size 0 lo:Nat):Int)==0&&(1:Int)==1&&(sIx items.size items.size hi-sIx items.size 0 lo)==items.size)=true then _ else _) _ _ s;rw[z5n hno,zqc]
 first
   |exact z4u (m:=Builtin.Tuple.tupleExact _) (z8f (z5e ⟨_,rfl,z5e h⟩) htake)
   |exact z4u (m:=Builtin.Tuple.tupleExact _) (z8f (z4u (z5e (z5e ⟨_,rfl,z5e h⟩))) htake)
   |exact z4u (z4u (m:=Builtin.Tuple.tupleExact _) (z8f (z5e (z5e ⟨_,rfl,z5e h⟩)) htake))
   |exact z4u (z4u (m:=Builtin.Tuple.tupleExact _) (z8f (z5e ⟨_,rfl,z5e h⟩) htake))
end
end HT
namespace L2
open PySem PySem.Spec PyProof.Rows
abbrev TO:=St->Hp->(Option Int->Hp->Prop)->Prop
def PO(X:Cx)(e:Option Expr)(t:TO):Prop :=
 ∀(pins:zAO) (s:Shared) (σ:St) (H:Hp) (Q:Option Int->Hp->Prop),Inv X pins σ H s->t σ H Q ->
   wpAny (model X.prog X.w) X.A (evalPart e X.env) (fun u s'=>∃o H',Inv X pins σ H' s'/\IsPart u o/\Q o H') X.xe s
def ztp:TO:=fun _ H Q=>Q none H
def z08(t:TE):TO:=fun σ H Q=>t σ H fun x H1=>∃i,x=.int i/\Q (some i) H1
section
variable {X:Cx}{e:Expr}{te:TE}{lo hi:Option Expr}{tl th:TO}{pos p2:Pos}
theorem zum:PO X none ztp:=by intro pins s σ H Q I h;rw[evalPart_none];exact z5e ⟨none,H,I,.none,h⟩
theorem zul(h:PE X e te):PO X (some e) (z08 te):=by intro pins s σ H Q I hw;rw[evalPart_some];refine thn (h pins s σ H _ I hw) fun u s1 ⟨x,H1,I1,r1,q1⟩=>?_;obtain⟨i,rfl,q⟩:=q1;obtain⟨t,rfl⟩:=r1;exact⟨some i,H1,I1,.int i t,q⟩
def SlR(X:Cx)(r:V->Option Int->Option Int->Hp->VK->Prop):Prop :=
 ∀(pins:zAO) (s:Shared) (σ:St) (H:Hp) (x:V) (v vl vu:Value) (lo hi:Option Int) (sl:Addr) (Q:VK),Inv X pins σ H s->RelV x v->s.heap.IsSliceOf sl vl vu .none->IsPart vl lo->IsPart vu hi->r x lo hi H Q ->
   ∃T id,typeLookup (.type T) "__getitem__"=pure (some (.builtin id))/\s.TypeIs v T/\wpAny (model X.prog X.w) X.A (getItem v (.ref sl)) (EP X pins σ Q) X.xe s
theorem SlR.or{r r':V->Option Int->Option Int->Hp->VK->Prop}(h:SlR X r)(h':SlR X r'):SlR X (fun x lo hi H Q=>r x lo hi H Q\/r' x lo hi H Q):=by
 intro pins s σ H x v vl vu lo hi sl Q I rx hs pl pu q;rcases q with q | q
 · exact h pins s σ H x v vl vu lo hi sl Q I rx hs pl pu q
 · exact h' pins s σ H x v vl vu lo hi sl Q I rx hs pl pu q
def tSl(r:V->Option Int->Option Int->Hp->VK->Prop)(te:TE)(tl th:TO):TE:=fun σ H Q=>te σ H fun x H1=>tl σ H1 fun l H2=>th σ H2 fun u H3=>r x l u H3 Q
theorem zjn{r:V->Option Int->Option Int->Hp->VK->Prop}(hr:SlR X r)(he:PE X e te)(hl:PO X lo tl)(hu:PO X hi th):PE X (.Subscript e (.Slice lo hi none p2) pos) (tSl r te tl th):=by intro pins s σ H Q I h;refine Subscript_ (thn (he pins s σ H _ I h) fun v s1 ⟨x,H1,I1,r1,q1⟩=>?_);refine wpAny_Slice (thn (hl pins s1 σ H1 _ I1 q1) fun vl s2 ⟨l,H2,I2,pl,q2⟩=>thn (hu pins s2 σ H2 _ I2 q2) fun vu s3 ⟨u,H3,I3,pu,q3⟩=>?_);rw[evalPart_none];refine z5e ?_;have I4:Inv X pins σ H3 { s3 with heap:=s3.heap.push { cls:=.type "slice",data:=.fields #[vl,vu,.none] } }:=I3.kept (t':=s3.toks) fun b ob q=>z4z _ q;obtain⟨T,id,hT,ht,hg⟩:=hr pins { s3 with heap:=s3.heap.push { cls:=.type "slice",data:=.fields #[vl,vu,.none] } } σ H3 x v vl vu l u s3.heap.objs.size Q I4 r1 (Heap.IsSliceOf.new ..) pl pu q3;show wpAny (model X.prog X.w) X.A (subscriptTail e (.Slice lo hi none p2) v (.ref s3.heap.objs.size)) (EP X pins σ Q) X.xe { s3 with heap:=s3.heap.push { cls:=.type "slice",data:=.fields #[vl,vu,.none] } };exact tail_any (ops:=[.ref s3.heap.objs.size,v]) ht hT hg (by with_unfolding_all rfl)
def zs4(xs:List V)(lo hi:Option Int):List V:=(xs.drop (HT.sIx xs.length 0 lo)).take (HT.sIx xs.length xs.length hi-HT.sIx xs.length 0 lo)
theorem zd2(xs:List V)(lo hi:Option Int):(zs4 xs lo hi).length<=xs.length:=by unfold zs4;rw[z49,z5o];omega
def z37(K:zFr):V->Option Int->Option Int->Hp->VK->Prop:=fun x lo hi H Q=>∃a xs,x=.ref a/\SqT K H a xs /\
 ¬ (HT.sIx xs.length 0 lo=0/\HT.sIx xs.length xs.length hi=xs.length)/\∀p,H p=none->Q (.ref p) (upd H p (.tup (zs4 xs lo hi)))
theorem zwt:SlR X (z37 X.K):=by
 intro pins s σ H x v vl vu lo hi sl Q I rx hs pl pu h;obtain⟨a,xs,rfl,hx,hw,q⟩:=h;cases rx;obtain⟨its,r,ht,hz⟩:=I.tuple hx;have hlen:its.toArray.size=xs.length:=by rw[z45];exact r.length.symm
 refine⟨"tuple",_,z7x.lookup,ht.typeIs,?_⟩;refine HT.getItem_tuple_cut ht hs pl pu (by rw[hlen];exact hw) ?_ (by rw[hlen];exact hz);rw[hlen];refine⟨.ref s.heap.objs.size,_,I.laid (t':=s.toks) (o:=.tup (zs4 xs lo hi)) (fun b ob q=>z4z _ q) (z4v _) ?_,rfl,q _ (I.hok.fresh (z4v _))⟩;exact⟨z5j (zd2 xs lo hi) hz,_,(r.drop (HT.sIx xs.length 0 lo)).take (HT.sIx xs.length xs.length hi-HT.sIx xs.length 0 lo),IsTup.new _ _⟩
def zxb(K:zFr):R2:=fun x y H Q=>∃a b xs ys,x=.ref a/\y=.ref b/\SqT K H a xs/\SqT K H b ys/\xs≠[]/\xs.length+ys.length<=sizeLine /\
 (ys=[]->Q (.ref a) H)/\(ys≠[]->∀p,H p=none->Q (.ref p) (upd H p (.tup (xs++ys))))
theorem Vals.nil_iff{xs:List V}{us:List Value}(r:Vals xs us):us=[]↔xs=[]:=by
 cases r with
 |nil=>simp
 |cons _ _=>simp
theorem op_catT:OpR X (binaryOp .Add) (zxb X.K):=by intro pins s σ H x y v u Q I rx ry h;obtain⟨a,b,xs,ys,rfl,rfl,ha,hb,hx,hz,q1,q2⟩:=h;cases rx;cases ry;obtain⟨its,r1,p1,_⟩:=I.tuple ha;obtain⟨its2,r2,p2,_⟩:=I.tuple hb;refine HT.cat_tup p1 p2 (fun z=>hx (r1.nil_iff.mp z)) (fun z=>⟨.ref a,H,I,rfl,q1 (r2.nil_iff.mp z)⟩) (fun z=>?_) (by rw[<-r1.length,<-r2.length];exact hz);refine⟨.ref s.heap.objs.size,_,I.laid (t':=s.toks) (o:=.tup (xs++ys)) (fun b ob q=>z4z _ q) (z4v _) ?_,rfl,q2 (fun w=>z (r2.nil_iff.mpr w)) _ (I.hok.fresh (z4v _))⟩;exact⟨by rw[z4t];exact hz,_,r1.append r2,IsTup.new _ _⟩
end
def ixN(n:Nat)(i:Int):Option Nat:=if 0<=i then (if i<n then some i.toNat else none)else if -(n:Int)<=i then some (i+n).toNat else none
def atI{α:Type}(xs:List α)(i:Int):Option α:=(ixN xs.length i).bind fun j=>xs[j]?
theorem zu5{n:Nat}{i:Int}{j:Nat}(h:ixN n i=some j):seqIndex? i n=some j/\j<n/\-(n:Int)<=i/\i<n:=by
 unfold ixN at h;by_cases h0:0<=i
 · rw[z5g h0]at h;by_cases h1:i<n
   · rw[z5g h1]at h;have e:i.toNat=j:=z53 h;exact⟨by rw[seqIndex_of h0 h1,e],by omega,by omega,h1⟩
   · rw[z5n h1]at h;cases h
 · rw[z5n h0]at h;by_cases h1:-(n:Int)<=i
   · rw[z5g h1]at h;have e:(i+n).toNat=j:=z53 h;exact⟨by rw[seqIndex_neg (by omega) h1,e],by omega,h1,by omega⟩
   · rw[z5n h1]at h;cases h
theorem zi0{α:Type}{xs:List α}{i:Int}{v:α}(h:atI xs i=some v):∃j,seqIndex? i xs.length=some j/\xs[j]? = some v/\j<xs.length/\-(xs.length:Int)<=i/\i<xs.length:=by
 unfold atI at h;cases e:ixN xs.length i with
 |none=>rw[e]at h;cases h
 | some j=>
   rw[e]at h;obtain⟨h1,h2,h3,h4⟩:=zu5 e;exact⟨j,h1,h,h2,h3,h4⟩
theorem zbm{α:Type}{xs:List α}{j:Nat}{v:α}(h:xs[j]? = some v):atI xs (j:Int)=some v:=by
 have hj:j<xs.length:=(z42.mp h).1;have e:ixN xs.length (j:Int)=some j:=by unfold ixN;rw[z5g (by omega),z5g (by omega)];simp
 unfold atI;rw[e];exact h
def zpc(b:Expr):Prop:=∀o i,subscripted b false o i=operate [o,i] (getItem o i)
def IxR(X:Cx)(r:R2):Prop :=
 ∀(value slice:Expr) (pins:zAO) (s:Shared) (σ:St) (H:Hp) (x y:V) (v u:Value) (Q:VK),Inv X pins σ H s->RelV x v->RelV y u->r x y H Q ->
   subscripted slice false v u=operate [v,u] (getItem v u)->wpAny (model X.prog X.w) X.A (subscriptTail value slice v u) (EP X pins σ Q) X.xe s
def MtR(X:Cx)(id:String)(r:V->List V->Hp->VK->Prop):Prop :=
 ∀(pins:zAO) (s:Shared) (σ:St) (H:Hp) (x:V) (xs:List V) (v:Value) (us:List Value) (Q:VK),Inv X pins σ H s->RelV x v->Vals xs us->r x xs H Q ->
   wpAny (model X.prog X.w) X.A (call (.builtin id) (v::us)) (EP X pins σ Q) X.xe s
section
variable {X:Cx}{a b:Expr}{ta tb:TE}{pos:Pos}
theorem IxR.or{r r':R2}(h:IxR X r)(h':IxR X r'):IxR X (fun x y H Q=>r x y H Q\/r' x y H Q):=by
 intro value slice pins s σ H x y v u Q I rx ry q hs;rcases q with q | q
 · exact h value slice pins s σ H x y v u Q I rx ry q hs
 · exact h' value slice pins s σ H x y v u Q I rx ry q hs
theorem z1p{r:R2}(hr:IxR X r)(ha:PE X a ta)(hb:PE X b tb)(hs:zpc b):PE X (.Subscript a b pos) (tOp r ta tb):=by intro pins s σ H Q I h;exact Subscript_ (z2q ha hb I h fun v u s2 x y H2 I2 rx ry q=>hr a b pins s2 σ H2 x y v u Q I2 rx ry q (hs _ _))
def z26(K:zFr):R2:=fun x y H Q=>∃p xs i v,x=.ref p/\y=.int i/\SqL K H p xs/\atI xs i=some v/\Q v H
def z24(K:zFr):R2:=fun x y H Q=>∃p xs i v,x=.ref p/\y=.int i/\SqT K H p xs/\atI xs i=some v/\Q v H
def z25:R2:=fun x y H Q=>∃z i c,x=.str z/\y=.int i/\z.length<=sizeLine/\atI z.cps.toList i=some c/\Q (.str ⟨#[c]⟩) H
theorem ix_list:IxR X (z26 X.K):=by
 intro value slice pins s σ H x y v u Q I rx ry h hs;obtain⟨p,xs,i,z,rfl,rfl,hq,he,q⟩:=h;cases rx;obtain⟨t,rfl⟩:=ry;obtain⟨its,r,pl,hz⟩:=I.list hq;obtain⟨j,h1,h2,h3,h4,h5⟩:=zi0 he;obtain⟨w,ew,rw'⟩:=r.get h2;have hl:=r.length;have hn:=zgz;have fin:EP X pins σ Q w s:=⟨z,H,I,rw',q⟩
 by_cases h0:0<=i
 · have hj:i.toNat=j:=by rw[seqIndex_of h0 h5]at h1;exact z53 h1
   exact item_listR pl.isList h0 (by omega) (by rw[hj];simpa using ew) fin hs
 · have hj:(i+(its.toArray.size:Int)).toNat=j:=by rw[seqIndex_neg (by omega) h4]at h1;rw[z45,<-hl];exact z53 h1
   exact subscriptTail_builtinR (x:=w) pl.isList.typeIs slot_list_getitem.lookup
     (wpAny_getItem_list_neg (Q:=fun r s'=>r=w/\EP X pins σ Q r s') pl.isList (by omega) (by rw[z45]<;>omega) (by omega) (by rw[hj];simpa using ew) ⟨rfl,fin⟩) hs
theorem ix_tup:IxR X (z24 X.K):=by
 intro value slice pins s σ H x y v u Q I rx ry h hs;obtain⟨p,xs,i,z,rfl,rfl,hq,he,q⟩:=h;cases rx;obtain⟨t,rfl⟩:=ry;obtain⟨its,r,pl,hz⟩:=I.tuple hq;obtain⟨j,h1,h2,h3,h4,h5⟩:=zi0 he;obtain⟨w,ew,rw'⟩:=r.get h2;have hl:=r.length;have hn:=zgz;have fin:EP X pins σ Q w s:=⟨z,H,I,rw',q⟩
 exact subscriptTail_builtinR (x:=w) pl.typeIs slot_tuple_getitem.lookup
   (getItem_tuple (j:=j) (Q:=fun r s'=>r=w/\EP X pins σ Q r s') pl (by omega) (by omega) (by rw[z45,<-hl];exact h1) (by simpa using ew) ⟨rfl,fin⟩) hs
theorem zyt:IxR X z25:=by
 intro value slice pins s σ H x y v u Q I rx ry h hs;obtain⟨z,i,c,rfl,rfl,hz,he,q⟩:=h;obtain⟨t,rfl⟩:=rx;obtain⟨t',rfl⟩:=ry;obtain⟨j,h1,h2,h3,h4,h5⟩:=zi0 he;have hl:z.cps.toList.length=z.length:=by simp[Str.length]
 rw[hl]at h1 h4 h5;have hn:=zgz;exact tail_any (typeIs_str s z t) slot_str_getitem.lookup (getItem_str (c:=c) (by
   have e1:decide (i < -(2^63:Int))=false:=z5m (by omega);have e2:decide (i ≥ 2^63)=false:=z5m (by omega);rw[e1,e2,Bool.or_false]) (by rw[h1];simpa using h2) ⟨.str ⟨#[c]⟩,H,I.tok _,⟨_,rfl⟩,q⟩) hs
def rIx(K:zFr):R2:=fun x y H Q=>z26 K x y H Q\/z24 K x y H Q\/z25 x y H Q
theorem zyu:IxR X (rIx X.K):=ix_list.or (ix_tup.or zyt)
theorem zgp(lo hi:Option Int)(n:Nat):(sliceBounds lo hi none n).1=((HT.sIx n 0 lo:Nat):Int)/\(sliceBounds lo hi none n).2.1=((HT.sIx n n hi:Nat):Int)/\(sliceBounds lo hi none n).2.2=1:=by
 refine⟨?_,?_,rfl⟩
 · cases lo with
   |none=>simp[sliceBounds,HT.sIx]
   | some i=>
     simp only[sliceBounds,HT.sIx,Option.getD_none,show(1:Int)>0 by decide,z6s];by_cases h:i<0
     · simp only[h,z6s]<;>omega
     · simp only[h,z6b]<;>omega
 · cases hi with
   |none=>simp[sliceBounds,HT.sIx]
   | some i=>
     simp only[sliceBounds,HT.sIx,Option.getD_none,show(1:Int)>0 by decide,z6s];by_cases h:i<0
     · simp only[h,z6s]<;>omega
     · simp only[h,z6b]<;>omega
theorem zfh(its:List Value)(lo hi:Option Int):slicePick its.toArray lo hi none=((its.drop (HT.sIx its.length 0 lo)).take (HT.sIx its.length its.length hi-HT.sIx its.length 0 lo)).toArray:=by obtain⟨h1,h2,h3⟩:=zgp lo hi its.toArray.size;unfold slicePick;rw[h1,h2,h3];simp only[sliceRange_one,pick_run,z45]<;>rfl
def z39(K:zFr):V->Option Int->Option Int->Hp->VK->Prop:=fun x lo hi H Q=>∃a xs,x=.ref a/\SqL K H a xs/\∀p,H p=none->Q (.ref p) (upd H p (.lst (zs4 xs lo hi)))
theorem sl_list:SlR X (z39 X.K):=by intro pins s σ H x v vl vu lo hi sl Q I rx hs pl pu h;obtain⟨a,xs,rfl,hx,q⟩:=h;cases rx;obtain⟨its,r,ht,hz⟩:=I.list hx;have hlen:=r.length;refine⟨"list",_,slot_list_getitem.lookup,ht.isList.typeIs,?_⟩;refine wpAny_getItem_list_slice ht.isList hs pl pu .none (by simp) ?_ (by rw[z45]<;>omega);rw[zfh,<-hlen];refine⟨.ref s.heap.objs.size,_,I.laid (t':=s.toks) (o:=.lst (zs4 xs lo hi)) (fun b ob q=>z4z _ q) (z4v _) ?_,rfl,q _ (I.hok.fresh (z4v _))⟩;exact⟨z5j (zd2 xs lo hi) hz,_,0,(r.drop (HT.sIx xs.length 0 lo)).take (HT.sIx xs.length xs.length hi-HT.sIx xs.length 0 lo),z5s _ rfl⟩
def zij:V->Bool
 | .non=>true
 | .bl _=>true
 | .int _=>true
 | .str _=>true
 |_=>false
def eqV:V->V->Bool
 | .non,.non=>true
 | .bl a,.bl b=>a==b
 | .bl a,.int b=>(if a then 1 else 0)==b
 | .int a,.bl b=>a==(if b then 1 else 0)
 | .int a,.int b=>a==b
 | .str a,.str b=>a==b
 |_,_=>false
theorem zsz{A:Around}{s:Shared}{y x:V}{u v:Value}(ry:RelV y u)(rx:RelV x v)(fy:zij y=true)(fx:zij x=true):SeqAt.EqAt A s u v (eqV y x):=by
 cases y with
 | non=>
   cases ry;cases x with
   |non=>cases rx;exact SeqAt.EqAt.same _
   |bl b=>cases rx;exact SeqAt.EqAt.none_bool b
   |int b=>obtain⟨t,rfl⟩:=rx;exact SeqAt.EqAt.none_int b t
   |str b=>obtain⟨t,rfl⟩:=rx;exact SeqAt.EqAt.none_str b t
   |_=>exact absurd (show false=true from fx) z6m
 | bl a=>
   cases ry;cases x with
   |non=>cases rx;exact SeqAt.EqAt.bool_none a
   |bl b=>cases rx;exact SeqAt.EqAt.bool_bool a b
   |int b=>obtain⟨t,rfl⟩:=rx;exact SeqAt.EqAt.bool_int a b t
   |str b=>obtain⟨t,rfl⟩:=rx;exact SeqAt.EqAt.bool_str a b t
   |_=>exact absurd (show false=true from fx) z6m
 | int a=>
   obtain⟨t',rfl⟩:=ry;cases x with
   |non=>cases rx;exact SeqAt.EqAt.int_none a t'
   |bl b=>cases rx;exact SeqAt.EqAt.int_bool a t' b
   |int b=>obtain⟨t,rfl⟩:=rx;exact SeqAt.EqAt.int_int a t' b t
   |str b=>obtain⟨t,rfl⟩:=rx;exact SeqAt.EqAt.int_str a t' b t
   |_=>exact absurd (show false=true from fx) z6m
 | str a=>
   obtain⟨t',rfl⟩:=ry;cases x with
   |non=>cases rx;exact SeqAt.EqAt.str_none a t'
   |bl b=>cases rx;exact SeqAt.EqAt.str_bool a t' b
   |int b=>obtain⟨t,rfl⟩:=rx;exact SeqAt.EqAt.str_int a t' b t
   |str b=>obtain⟨t,rfl⟩:=rx;exact SeqAt.EqAt.str_str a t' b t
   |_=>exact absurd (show false=true from fx) z6m
 |_=>exact absurd (show false=true from fy) z6m
theorem call_len_seq:CallR X (.builtin "len") (fun xs H Q=>∃p ys,xs=[.ref p]/\(SqL X.K H p ys\/SqT X.K H p ys)/\Q (.int ys.length) H):=by
 intro pins s σ H xs us Q I r h;obtain⟨p,ys,rfl,hq,q⟩:=h;obtain⟨u,rfl,rx⟩:=zl9 r;cases rx;have hn:=zgz;rcases hq with hq | hq
 · obtain⟨its,r',pl,hz⟩:=I.list hq;have hlen:=r'.length;exact Calls.call_len_list pl.isList (by simp only[z45]<;>omega) ⟨.int ys.length,H,I.tok _,⟨s.toks+1,by rw[z45,hlen]⟩,q⟩
 · obtain⟨its,r',pl,hz⟩:=I.tuple hq;have hlen:=r'.length;exact len_tuple pl (by simp only[z45]<;>omega) ⟨.int ys.length,H,I.tok _,⟨s.toks+1,by rw[z45,hlen]⟩,q⟩
theorem zhc:CallR X (.builtin "len") (fun xs H Q=>∃z,xs=[.str z]/\z.length<=sizeLine/\Q (.int z.length) H):=by intro pins s σ H xs us Q I r h;obtain⟨z,rfl,hz,q⟩:=h;obtain⟨u,rfl,t,rfl⟩:=zl9 r;have hn:=zgz;exact len_str (by omega) ⟨.int z.length,H,I.tok _,⟨_,rfl⟩,q⟩
theorem CallR.or{f:Value}{r r':List V->Hp->VK->Prop}(h:CallR X f r)(h':CallR X f r'):CallR X f (fun xs H Q=>r xs H Q\/r' xs H Q):=by
 intro pins s σ H xs us Q I rs q;rcases q with q | q
 · exact h pins s σ H xs us Q I rs q
 · exact h' pins s σ H xs us Q I rs q
theorem zhb:CallR X (.type "list") (fun xs H Q=>∃p ys,xs=[.ref p]/\(SqL X.K H p ys\/SqT X.K H p ys)/\∀l,H l=none->Q (.ref l) (upd H l (.lst ys))):=by
 intro pins s σ H xs us Q I r h;obtain⟨p,ys,rfl,hq,q⟩:=h;obtain⟨u,rfl,rx⟩:=zl9 r;cases rx;have fin:∀(its:List Value),Vals ys its->ys.length<=sizeLine->∀(h':Heap) (c':Nat),(∀b o',s.heap.get? b=some o'->h'.get? b=some o') ->
     h'.get? s.heap.objs.size=some { cls:=.type "list",dict:=none,data:=.seq its.toArray c',slots:=#[] }->EP X pins σ Q (.ref s.heap.objs.size) { s with heap:=h' }:=fun its r' hz h' c' kp e=>
   ⟨.ref s.heap.objs.size,_,I.laid (t':=s.toks) kp (z4v _) (show ObjOk X.prog X.w _ h' _ (.lst ys) from⟨hz,its,c',r',e⟩),rfl,q _ (I.hok.fresh (z4v _))⟩
 rcases hq with hq | hq
 · obtain⟨its,r',pl,hz⟩:=I.list hq;have hlen:=r'.length;obtain⟨o,ho,hc,n,hd⟩:=pl.isList;exact call_list_seq p (.inl rfl) ho hc hd (fun h' c' kp e=>fin its r' hz h' c' kp e) (by simp only[z45]<;>omega)
 · obtain⟨its,r',pl,hz⟩:=I.tuple hq;have hlen:=r'.length;obtain⟨o,ho,hc,n,hd⟩:=pl;exact call_list_seq p (.inr rfl) ho hc hd (fun h' c' kp e=>fin its r' hz h' c' kp e) (by simp only[z45]<;>omega)
def tyV(K:zFr)(T:String)(x:V)(H:Hp):Prop:=match x with
 | .str _=>T="str"
 | .int _=>T="int"
 | .ref p=>(T="list"/\∃xs,SqL K H p xs)\/(T="tuple"/\∃o,K.lookup p=some o/\o.cls=.type "tuple"/\o.dict=none) \/
     (T="dict"/\((∃kvs,H p=some (.dK kvs))\/∃kvs,H p=some (.dT kvs)))\/(T="set"/\∃S n,H p=some (.set S n))
 |_=>False
theorem zr2{pins:zAO}{σ:St}{H:Hp}{s:Shared}{T:String}{x:V}{v:Value}(I:Inv X pins σ H s)(r:RelV x v)(ty:tyV X.K T x H) :
   s.TypeIs v T/\∀a,v=.ref a->∃ob,s.heap.get? a=some ob/\ob.dict=none:=by
 cases x with
 | str z=>
   obtain⟨t,rfl⟩:=r;cases(show T="str" from ty);exact⟨typeIs_str s z t,fun _ e=>nomatch e⟩
 | int i=>
   obtain⟨t,rfl⟩:=r;cases(show T="int" from ty);exact⟨typeIs_int s i t,fun _ e=>nomatch e⟩
 | ref p=>
   cases r;rcases ty with⟨rfl,xs,hq⟩ | ⟨rfl,o,hk,hc,hd⟩ | ⟨rfl,hk⟩ | ⟨rfl,S,n,hk⟩
   · obtain⟨its,_,pl,_⟩:=I.list hq;refine⟨pl.isList.typeIs,fun a e=>?_⟩;cases e;obtain⟨o,n,e,c,hd,_⟩:=pl;exact⟨o,e,hd⟩
   · refine⟨⟨o,I.kIn p o hk,hc⟩,fun a e=>?_⟩;cases e;exact⟨o,I.kIn _ o hk,hd⟩
   · have z:∃o,s.heap.get? p=some o/\o.ExactDict:=by
       rcases hk with⟨kvs,hk⟩ | ⟨kvs,hk⟩
       · obtain⟨_,_,_,_,o,_,_,e,ex,_⟩:=I.hok p _ hk;exact⟨o,e,ex⟩
       · obtain⟨_,_,_,_,o,_,_,e,ex,_⟩:=I.hok p _ hk;exact⟨o,e,ex⟩
     obtain⟨o,e,ex⟩:=z;refine⟨⟨o,e,ex.1⟩,fun a e2=>?_⟩;cases e2;exact⟨o,e,ex.2.1⟩
   · obtain⟨o,_,_,_,e,ex,_⟩:=I.hok p _ hk;refine⟨⟨o,e,ex.1⟩,fun a e2=>?_⟩;cases e2;exact⟨o,e,ex.2.1⟩
 |_=>exact False.elim ty
def z3u(K:zFr)(T:String)(r:V->List V->Hp->VK->Prop)(to:TE):TE:=fun σ H Q=>to σ H fun x H1=>tyV K T x H1/\r x [] H1 Q
def tBM(K:zFr)(T:String)(r:V->List V->Hp->VK->Prop)(to:TE)(t:TA):TE:=fun σ H Q=>to σ H fun x H1=>tyV K T x H1/\t σ H1 fun xs H2=>r x xs H2 Q
variable {o e:Expr}{es:List Expr}{to:TE}{t:TA}{name:Str}{apos cpos:Pos}{T id:String}{r:V->List V->Hp->VK->Prop}
theorem zxw(pa:PlainAttrs T)(slot:Slot T name id)(hty:typeOf (.builtin id)=pure (.type "method_descriptor"))(hm:MtR X id r)(ho:PE X o to)
   (hbase:attributeBase o name X.env (eval o X.env)=eval o X.env:=by rfl) (hline:(apos.endLine==cpos.line)=true:=by rfl):PE X (.Call (.Attribute o name apos) [] [] cpos) (z3u X.K T r to):=by
 intro pins s σ H Q I h;refine wpAny_Call_method0_late hbase hline (thn (ho pins s σ H _ I h) fun v s1 ⟨x,H1,I1,r1,ty,q1⟩=>?_);obtain⟨h1,h2⟩:=zr2 I1 r1 ty;exact⟨T,id,pa,slot,hty,h1,h2,Calls.callWith_builtin rfl (PySem.evalArgs_none (hm pins s1 σ H1 x [] v [] Q I1 r1 .nil q1))⟩
theorem z1q(pa:PlainAttrs T)(slot:Slot T name id)(hty:typeOf (.builtin id)=pure (.type "method_descriptor"))(hm:MtR X id r)(ho:PE X o to)(ha:PA X (e::es) t)
   (hbase:attributeBase o name X.env (eval o X.env)=eval o X.env:=by rfl)
   (hfew:((backTo cpos (starEach (e::es) X.env)).all (fun x=>!x.1)&&(backToKw cpos (keywordEach [] X.env)).all (fun x=>x.1.isSome)
     && decide ((e::es).length+([]:List Keyword).length+(if([]:List Keyword).isEmpty then 0 else 1)<30))=true:=by rfl)
   (hline:(apos.endLine==cpos.line)=true:=by rfl) (hs:starEach (e::es) X.env=(false,eval e X.env)::starEach es X.env:=by rfl) (hplain:(backTo cpos (starEach es X.env)).any (·.1)=false:=by rfl) :
   PE X (.Call (.Attribute o name apos) (e::es) [] cpos) (tBM X.K T r to t):=by
 intro pins s σ H Q I h;refine wpAny_Call_method_late hbase hfew hline rfl (thn (ho pins s σ H _ I h) fun v s1 ⟨x,H1,I1,r1,ty,q1⟩=>?_);obtain⟨h1,h2⟩:=zr2 I1 r1 ty;refine⟨T,id,pa,slot,hty,h1,h2,?_⟩;have hA:=ha cpos pins s1 σ H1 _ I1 q1;rw[hs]at hA ⊢;refine Calls.callWith_builtin (by show(false||(backTo cpos (starEach es X.env)).any (·.1))=false;rw[hplain]<;>rfl) (Calls.evalArgs_plain ?_);exact thn hA fun us s2 ⟨vs,H2,I2,r2,q2⟩=>hm pins s2 σ H2 x vs v us Q I2 r1 r2 q2
/- xs.append(e),list.index on a module's tuple .. are MtR facts of 06m -/
end
def MtM(X:Cx)(id:String)(r:V->List V->Hp->VK->Prop):Prop :=
 ∀(pins:zAO) (s:Shared) (σ:St) (H:Hp) (x:V) (xs:List V) (v:Value) (us:List Value) (Q:VK),Inv X pins σ H s->RelV x v->Vals xs us->r x xs H Q ->
   wpAny (model X.prog X.w) X.A (call (.builtin id) (v::us)) (EP X pins σ Q) X.xe s
theorem Vals.one:∀{x:V}{us:List Value},Vals [x] us->∃u,us=[u]/\RelV x u
 |_,_,.cons r .nil=>⟨_,rfl,r⟩
theorem Vals.zero:∀{us:List Value},Vals [] us->us=[]
 |_,.nil=>rfl
theorem Vals.dropLast{xs:List V}{us:List Value}(h:Vals xs us):Vals xs.dropLast us.dropLast:=by
 induction h with
 |nil=>exact .nil
 | cons r t ih=>
   cases t with
   |nil=>exact .nil
   |cons q t'=>exact .cons r ih
theorem Vals.reverse{xs:List V}{us:List Value}(h:Vals xs us):Vals xs.reverse us.reverse:=by
 induction h with
 |nil=>exact .nil
 |cons r t ih=>rw[z8g,z8g];exact Vals.append ih (.cons r .nil)
section
variable {X:Cx}{pins:zAO}{σ:St}{H:Hp}{s:Shared}{l b:Addr}{xs ys zs:List V}
theorem Inv.lset{its its':List Value}{n:Nat}{f:Array Value->Array Value}{t':Nat}(I:Inv X pins σ H s)(hH:H l=some (.lst xs))
   (e:s.heap.get? l=some { cls:=.type "list",data:=.seq its.toArray n }) (hf:f its.toArray=its'.toArray) (hv:Vals ys its') (hz:ys.length<=sizeLine) :
   Inv X pins σ (upd H l (.lst ys)) { s with heap:=s.heap.update l (Obj.mapSeq f),toks:=t' }:=by
 have q:=PySem.IsL.update e f;rw[hf]at q;refine I.write (x:=l) (e:=l) (by rw[hH];exact trivial) (.inl rfl) (fun b' u hb hu=>(z80 s.heap (Obj.mapSeq f) (z7e hb)).trans hu) ⟨_,q⟩ ?_;exact⟨hz,its',_,hv,q⟩
theorem Inv.lnew{its:List Value}{t':Nat}(I:Inv X pins σ H s)(hv:Vals ys its)(hz:ys.length<=sizeLine) :
   Inv X pins σ (upd H s.heap.objs.size (.lst ys)) { s with heap:=s.heap.push { cls:=.type "list",data:=.seq its.toArray },toks:=t' } :=
 I.laid (fun _ _ q=>z4z _ q) (z4v _) ⟨hz,its,0,hv,z5s _ rfl⟩
theorem Inv.fresh(I:Inv X pins σ H s):H s.heap.objs.size=none:=I.hok.fresh (z4v _)
theorem Inv.lstM(I:Inv X pins σ H s)(hH:H l=some (.lst xs)):xs.length<=sizeLine/\∃(its:List Value) (n:Nat),Vals xs its/\xs.length=its.length/\s.heap.get? l=some { cls:=.type "list",data:=.seq its.toArray n }:=by obtain⟨z,its,n,r,e⟩:=I.hok l _ hH;exact⟨z,its,n,r,r.length,e⟩
end
section
variable {X:Cx}
def zuf:V->List V->Hp->VK->Prop:=fun x vs H Q=>∃l xs y,x=.ref l/\vs=[y]/\H l=some (.lst xs)/\xs.length<sizeLine/\Q .non (upd H l (.lst (xs++[y])))
theorem zno:MtM X "list.append" zuf:=by intro pins s σ H x vs v us Q I rx rv h;obtain⟨l,xs,y,rfl,rfl,hH,hz,q⟩:=h;cases rx;obtain⟨u,rfl,ru⟩:=rv.one;obtain⟨z,its,n,r,hl,e⟩:=I.lstM hH;refine call_meets F.slot_list_append ⟨_,e,rfl⟩ F.entry_list_append (F.args_list_append_2 _ _) (PySem.list_append l its.toArray n u (by rw[z45];omega)) ⟨e,?_⟩;refine⟨.non,_,I.lset (its':=its++[u]) hH e (by simp) (r.append (.cons ru .nil)) ?_,rfl,q⟩;rw[z4t,List.length_singleton];omega
def zxa:V->List V->Hp->VK->Prop:=fun x vs H Q=>∃l xs,x=.ref l/\vs=[]/\H l=some (.lst xs)/\Q .non (upd H l (.lst []))
theorem zql:MtM X "list.clear" zxa:=by intro pins s σ H x vs v us Q I rx rv h;obtain⟨l,xs,rfl,rfl,hH,q⟩:=h;cases rx;have hus:=rv.zero;subst hus;obtain⟨z,its,n,r,hl,e⟩:=I.lstM hH;refine call_meets F.slot_list_clear ⟨_,e,rfl⟩ F.entry_list_clear (F.args_list_clear_1 _) (AutoSeq1.list_clear_list_0 l its.toArray n (by rw[z45];omega)) ⟨e,?_⟩;exact⟨.non,_,I.lset (its':=[]) (ys:=[]) hH e rfl .nil (z5y _),rfl,q⟩
end
end L2
namespace Att
open PySem PySem.W PySem.Calls PyProof.Rows
theorem zdr{P:Params}{h:Heap}:∀(ns:List Int) (vs:List Value),WellAll P h vs (ns.map WData.int)->IntsAre vs ns:=by
 intro ns
 induction ns with
 | nil=>
   intro vs w;rw[List.map_nil]at w;cases w;exact .nil
 | cons n ns ih=>
   intro vs w;rw[z5a]at w;cases w with
   | cons a b=>
     cases a;exact .cons _ _ (ih _ b)
theorem zmv{l:OpenLaw}{n:Nat}(hn:l.most=some n){P:Params}{h:Heap}{args:List WData}{vals:List Value}
   (hpre:l.row.toRowW.claim.pre args=true) (hwl:WellAll P h vals args) :
   ∃a vs ns,vals=[Value.ref a]/\args=[WData.list (ns.map WData.int)]/\h.get? a=some { cls:=.type "list",data:=.seq vs.toArray }/\IntsAre vs ns/\ns.length<=n:=by
 have hsh:WShape.hasAll [] args [.list .int]=true:=(pre_splitW hpre).1;have hc:l.pre.holds [] { args:=args }=true:=(pre_splitW hpre).2;obtain⟨d,r,rfl,h1,h2⟩:=hasAllW_cons hsh;obtain rfl:=hasAllW_nil h2;obtain⟨xs,rfl,h3⟩:=hasW_list h1;obtain⟨ns,rfl⟩:=items_int h3;have hlen:ns.length<=n:=by
   unfold OpenLaw.pre at hc;have h4:(WTm.not (.lt (.lit (.int (n:Int))) (.len (.arg 0)))).holds [] { args:=[.list (ns.map .int)] }=true:=by have h4:=(holds_andW hc).1;rw[hn]at h4;exact h4
   have h5:=condW_of h4 (w_not (w_lt w_lit (w_len_list (w_arg rfl))));rw[z56]at h5;refine Nat.le_of_not_lt fun q=>?_;have q':(n:Int)<((ns.length:Nat):Int):=by omega
   first
     | (rw[z5w q']at h5;exact absurd h5 (by decide))
     | (simp at h5;omega)
 cases hwl with
 | cons w1 w2=>
   cases w2;cases w1 with
   |list ho hall=>exact⟨_,_,ns,rfl,rfl,ho,zdr ns _ hall,hlen⟩
theorem znc(l:OpenLaw)(args:List WData):l.row.toRowW.claim.post args (.bool true) args=true :=
 postW_of (r:=l.row.toRowW) (X:=(true==true))
   (show WShape.has [] (.bool true) .bool=true by first | rfl | decide | simp[WShape.has,WShape.arms,WShape.armsAll])
   (show(WTm.eq .res (.lit (.bool true))).value [] { args:=args,res:=some (.bool true),after:=args }=some (.bool (true==true))from w_eq_bool (w_res rfl) w_lit) rfl
theorem attach_call{l:OpenLaw}{n:Nat}{q:Program}{loose:List Str}{XP:(zMg)->Heap->Prop}{YP:World->Heap->Prop}{d:DefRec}
   (hn:l.most=some n) (hdf:d.params.defaults=[])
   (call:∀(w:World) (s₀ s₁:Shared) (mg mb:zMg) (fa:Addr) (o:Obj) (pm cd doc:Value) (a:Addr) (vs:List Value) (ns:List Int),
     Ground q loose [] XP w s₀ mg mb s₁.heap->YP w s₁.heap ->
     s₁.heap.get? fa=some o->o.data=.func (docDef d.name d.params d.body d.scope pm cd doc)->s₁.heap.CodeRec cd d.name->mg d.name=some (.ref fa) ->
     s₁.heap.get? a=some { cls:=.type "list",data:=.seq vs.toArray }->IntsAre vs ns->ns.length<=n->s₁.gens=#[] ->
     codeAny (model l.prog w) callerA (.call (.ref fa) ⟨[.ref a],[]⟩) (fun r s'=>r=.ok (.ret (.bool true))/\OldK s₁.heap s'.heap/\s'.os=s₁.os/\AllBare s'.gens) s₁) :
   WalkO q loose XP YP l.row.toRowW d [] (fun f vs=>PySem.call f vs):=by
 intro w s₀ s₁ mg mb G Y fa o pm cd doc dV kV ho hd hcd hD hmg hg args vals as hpre hlay hrd hwl hlo;obtain rfl:dV=.none:=Dflts.none hD hdf;obtain rfl:kV=.none:=Dflts.noKw hD;obtain⟨a,vs,ns,rfl,rfl,hobj,hints,hlen⟩:=zmv hn hpre hwl;refine enter_call (z8p (call w s₀ s₁ mg mb fa o pm cd doc a vs ns G Y ho (fd_plain hd) hcd hmg hobj hints hlen hg) fun r s' hq=>?_);obtain⟨rfl,h2,h3,h4⟩:=hq;exact⟨.inl ⟨.bool true,.bool true,[],rfl,fun _=>rfl,.bool true,znc l _,fun _=>⟨List.Pairwise.nil,fun _ hm=>(nomatch hm)⟩⟩,h2,h3,h4⟩
section
variable {prog:Program}{w:World}{A:Around}{E:zVP}{s:Shared}{K:Frag}
def z3b(h:Heap)(L d:Addr):zAO:=(List.range h.objs.size).filterMap fun a=>if a=L\/a=d then none else (h.get? a).map fun o=>(a,o)
end
end Att
namespace L2
open PySem PySem.Spec PyProof.Rows
theorem zgm:∀{vs:List Value}{ns:List Int},IntsAre vs ns->Vals (ns.map V.int) vs
 |_,_,.nil=>.nil
 |_,_,.cons n t h=>.cons ⟨t,rfl⟩ (zgm h)
abbrev KOf{K:zFr}{h:Heap}(_:K.In h):zFr:=K
end L2
/- THE LAST THEOREM (shape;LID,My.* are yours):
  My.Adr: a structure of the addresses that your layer names (classes,functions);My.Txt K t: a structure (Prop) of the equations over K;
  My.txt_mk:{K}{implicit addresses ..} (e1:nsIn K mainGlobals "law"=some (some (.ref f))) (e2:K.lookup f=some ⟨oc,od,.func (fnOf "law" "law" params body scope dV kV doc pm an cdv ct),sl⟩) (e3:codeIn K cdv "law"=true) ..:∃t,My.Txt K t
(the tactic k_is has no namespace: write k_is) -/
namespace L2
open PySem PySem.Spec PyProof.Rows
def zfu(s:Stmt)(j:Nat):Stmt:=match s with
 | .ClassDef _ _ _ body _ _ _ _ _ _ _=>body.getD j (.Pass ⟨0,0,0,0⟩)
 |_=>.Pass ⟨0,0,0,0⟩
def zbj(s:Stmt):Arguments:=match s with
 | .FunctionDef _ a _ _ _ _ _ _ _ _=>a
 |_=>{ posonlyargs:=[],args:=[],vararg:=none,kwonlyargs:=[],kw_defaults:=[],kwarg:=none,defaults:=[] }
def jb(s:Stmt):List Stmt:=match s with
 | .FunctionDef _ _ b _ _ _ _ _ _ _=>b
 |_=>[]
def zh(s:Stmt):Scope:=match s with
 | .FunctionDef _ _ _ _ _ _ sc _ _ _=>sc
 |_=>{ kind:=.function,names:=[],isGenerator:=false,isCoroutine:=false }
abbrev CX0:CXT:=fun _ _ _ _ _ _=>False
abbrev E0:XK:=fun _ _ _=>False
theorem zk4{X:Cx}:zeb CX0 X E0:=fun _ _ _ _ _ _ _ h=>h.elim
theorem z0r{A B:Prop}(h:B):if false=true then A else B:=by rw[z5n z6m];exact h
theorem z0q{A B:Prop}(h:A):if true=true then A else B:=by rw[z5g rfl];exact h
section
variable {X:Cx}{pins:zAO}{σ:St}{H:Hp}{s:Shared}{a:Addr}{y v:V}{u r:Value}{o:Option V}{A:Around}{E:zVP}
end
end L2
namespace F
open PySem L2
def zyb:Expr->Bool
 | .Starred ..=>false
 |_=>true
theorem zy{e:Expr}{es:List Expr}{env:Env}(h:zyb e=true):starEach (e::es) env=(false,eval e env)::starEach es env:=by cases e<;>first | rfl | cases h
theorem qx{pos:Pos}{env:Env}:∀{es:List Expr},es.all zyb=true->(backTo pos (starEach es env)).any (·.1)=false
 | [],_=>rfl
 | e::es,h=>by rw[List.all_cons,z50]at h;rw[zy h.1];show(false||(backTo pos (starEach es env)).any (·.1))=false;rw[qx h.2];rfl
structure LT where
 params:Arguments
 body:Expr
 scope:Scope
 qual:Str
 caps:List Str:=[]
 cl:zLA:=[]
inductive D where
 |non | bl (b:Bool) | int (i:Int) | str (x:Str) | fn (x:Str) | ty (n:String)
 |tup (ds:List D) | lst (ds:List D) | obj (i:Nat) | lam (t:LT) | clo (t:LT) (vs:List D)
inductive MO where
 |lst (ds:List D) | ins (c:Str) (fs:List (Str×D)) | dct (kvs:List (Int×D)) | exc (c:Str) | tab (x q:Str)
abbrev Sto:=List MO
abbrev Ev:=List (Option D)
abbrev E:=Ev->Sto->Option (D×Sto)
abbrev B:=Ev->Sto->Option (Bool×Sto)
abbrev As:=Ev->Sto->Option (List D×Sto)
abbrev G:=List D->Sto->Option (D×Sto)
inductive Out where
 |nx (e:Ev) | rt (d:D) | bk (e:Ev) | ct (e:Ev)
abbrev C:=Ev->Sto->Option (Out×Sto)
def TupAt(K:zFr)(ρ:List Addr)(H:Hp)(p:Addr)(vs:List V):Prop :=
 (p∉ρ/\Rd H p (.tup vs))\/∃(o:Obj) (its:Array Value) (n:Nat),K.lookup p=some o/\o.cls=.type "tuple"/\o.data=.seq its n/\its.size<=sizeLine/\Vals vs its.toList
def LstAt(K:zFr)(ρ:List Addr)(H:Hp)(p:Addr)(vs:List V):Prop :=
 (p∉ρ/\Rd H p (.lst vs))\/∃(o:Obj) (its:Array Value) (n:Nat),K.lookup p=some o/\o.cls=.type "list"/\o.dict=none/\o.data=.seq its n/\its.size<=sizeLine/\Vals vs its.toList
theorem TupAt.sq{K ρ H p vs}(h:TupAt K ρ H p vs):SqT K H p vs:=by
 rcases h with⟨_,h⟩ | h
 · exact .inl h
 · exact .inr h
theorem LstAt.sq{K ρ H p vs}(h:LstAt K ρ H p vs):SqL K H p vs:=by
 rcases h with⟨_,h⟩ | h
 · exact .inl h
 · exact .inr h
def yj(c:Addr)(q:Str):Heap->Prop:=fun h=>h.CodeRec (.ref c) q
def zu1(t:LT)(a c:Addr)(pm ct:Value):Heap->Prop:=fun h=>h.get? a=some (PySem.W.kla_obj "<lambda>" t.qual t.params t.body t.scope t.cl pm c ct)
def LamAt(ρ:List Addr)(H:Hp)(t:LT)(a:Addr):Prop:=a∉ρ/\∃c pm ct,c∉ρ/\H a=some (.ext (zu1 t a c pm ct))/\H c=some (.ext (yj c t.qual))
def zki(t:LT)(cl:zLA)(a c:Addr)(pm ct:Value):Heap->Prop:=fun h=>h.get? a=some (PySem.W.kla_obj "<lambda>" t.qual t.params t.body t.scope cl pm c ct)
def Cells(ρ:List Addr)(H:Hp):List Str->List V->zLA->Prop
 | [],[],[]=>True
 |x::xs,u::us,p::cl=>p.1=x/\p.2∉ρ/\(∃(o:Obj) (w:Value),H p.2=some (.frz o (.own 0))/\o.data=.cell (some w)/\RelV u w)/\Cells ρ H xs us cl
 |_,_,_=>False
def CloAt(ρ:List Addr)(H:Hp)(t:LT)(us:List V)(a:Addr):Prop:=a∉ρ/\∃c pm ct cl,c∉ρ/\H a=some (.ext (zki t cl a c pm ct))/\H c=some (.ext (yj c t.qual))/\(cl.map (·.2)).Nodup/\Cells ρ H t.caps us cl
section
variable (K:zFr) (mg:zMg)
mutual
def Rep(ρ:List Addr)(H:Hp):D->V->Prop
 | .non,v=>v=.non
 | .bl b,v=>v=.bl b
 | .int i,v=>v=.int i
 | .str x,v=>v=.str x
 | .fn x,v=>∃a,v=.ref a/\mg x=some (.ref a)
 | .ty n,v=>v=.ty n
 | .tup ds,v=>∃p vs,v=.ref p/\TupAt K ρ H p vs/\RepL ρ H ds vs
 | .lst ds,v=>∃p vs,v=.ref p/\LstAt K ρ H p vs/\RepL ρ H ds vs
 | .obj i,v=>∃a,v=.ref a/\ρ[i]? = some a
 | .lam t,v=>∃a,v=.ref a/\LamAt ρ H t a
 | .clo t vs,v=>∃a us,v=.ref a/\CloAt ρ H t us a/\RepL ρ H vs us
def RepL(ρ:List Addr)(H:Hp):List D->List V->Prop
 | [],vs=>vs=[]
 |d::ds,vs=>∃v r,vs=v::r/\Rep ρ H d v/\RepL ρ H ds r
end
end
structure Ext (ρ:List Addr) (H:Hp) (ρ':List Addr) (H':Hp):Prop where
 pre:∀(i:Nat) (a:Addr),ρ[i]? = some a->ρ'[i]? = some a
 keep:∀b o,H b=some o->b∉ρ->H' b=some o
 new:∀b,b∈ρ'->b∉ρ->H b=none
theorem Ext.refl(ρ:List Addr)(H:Hp):Ext ρ H ρ H:=⟨fun _ _ h=>h,fun _ _ h _=>h,fun _ h n=>absurd h n⟩
theorem Ext.out{ρ ρ' H H'}(e:Ext ρ H ρ' H'){b:Addr}{o:HO}(h:H b=some o)(n:b∉ρ):b∉ρ':=fun z=>by have:=e.new b z n;rw[h]at this;cases this
theorem Ext.trans {ρ ρ' ρ'' H H' H''} (a:Ext ρ H ρ' H') (b:Ext ρ' H' ρ'' H''):Ext ρ H ρ'' H'' where
 pre:=fun i x h=>b.pre i x (a.pre i x h)
 keep:=fun c o h n=>b.keep c o (a.keep c o h n) (a.out h n)
 new:=fun c h n=>by
   by_cases z:c∈ρ'
   · exact a.new c z n
   · cases q:H c with
     |none=>rfl
     | some o=>
       have:=a.keep c o q n;rw[b.new c h z]at this;cases this
section
variable {K:zFr}{mg:zMg}{ρ ρ':List Addr}{H H':Hp}
theorem TupAt.mono{p vs}(h:TupAt K ρ H p vs)(e:Ext ρ H ρ' H'):TupAt K ρ' H' p vs:=by
 rcases h with⟨n,h | ⟨o,h⟩⟩ | h
 · exact .inl ⟨e.out h n,.inl (e.keep _ _ h n)⟩
 · exact .inl ⟨e.out h n,.inr ⟨o,e.keep _ _ h n⟩⟩
 · exact .inr h
theorem LstAt.mono{p vs}(h:LstAt K ρ H p vs)(e:Ext ρ H ρ' H'):LstAt K ρ' H' p vs:=by
 rcases h with⟨n,h | ⟨o,h⟩⟩ | h
 · exact .inl ⟨e.out h n,.inl (e.keep _ _ h n)⟩
 · exact .inl ⟨e.out h n,.inr ⟨o,e.keep _ _ h n⟩⟩
 · exact .inr h
theorem LamAt.mono{t a}(h:LamAt ρ H t a)(e:Ext ρ H ρ' H'):LamAt ρ' H' t a:=by obtain⟨n,c,pm,ct,nc,h1,h2⟩:=h;exact⟨e.out h1 n,c,pm,ct,e.out h2 nc,e.keep _ _ h1 n,e.keep _ _ h2 nc⟩
theorem Cells.mono(e:Ext ρ H ρ' H'):∀{xs:List Str}{us:List V}{cl:zLA},Cells ρ H xs us cl->Cells ρ' H' xs us cl
 | [],[],[],_=>trivial
 | x::xs,u::us,p::cl,h=>by obtain⟨h1,h2,⟨o,w,h3,h4⟩,h5⟩:=h;exact⟨h1,e.out h3 h2,⟨o,w,e.keep _ _ h3 h2,h4⟩,Cells.mono e h5⟩
 | [],[],_::_,h=>h.elim
 | [],_::_,_,h=>h.elim
 |_::_,[],_,h=>h.elim
 |_::_,_::_,[],h=>h.elim
theorem CloAt.mono{t us a}(h:CloAt ρ H t us a)(e:Ext ρ H ρ' H'):CloAt ρ' H' t us a:=by obtain⟨n,c,pm,ct,cl,nc,h1,h2,h3,h4⟩:=h;exact⟨e.out h1 n,c,pm,ct,cl,e.out h2 nc,e.keep _ _ h1 n,e.keep _ _ h2 nc,h3,h4.mono e⟩
mutual
theorem Rep.mono(e:Ext ρ H ρ' H'):∀{d:D}{v:V},Rep K mg ρ H d v->Rep K mg ρ' H' d v
 | .non,_,h=>h
 | .bl _,_,h=>h
 | .int _,_,h=>h
 | .str _,_,h=>h
 | .fn _,_,h=>h
 | .ty _,_,h=>h
 | .tup ds,_,h=>by unfold Rep at h ⊢;obtain⟨p,vs,e1,t,r⟩:=h;exact⟨p,vs,e1,t.mono e,RepL.mono e r⟩
 | .lst ds,_,h=>by unfold Rep at h ⊢;obtain⟨p,vs,e1,t,r⟩:=h;exact⟨p,vs,e1,t.mono e,RepL.mono e r⟩
 | .obj i,_,h=>by unfold Rep at h ⊢;obtain⟨a,e1,t⟩:=h;exact⟨a,e1,e.pre _ _ t⟩
 | .lam t,_,h=>by unfold Rep at h ⊢;obtain⟨a,e1,t⟩:=h;exact⟨a,e1,t.mono e⟩
 | .clo t vs,_,h=>by unfold Rep at h ⊢;obtain⟨a,us,e1,t,r⟩:=h;exact⟨a,us,e1,t.mono e,RepL.mono e r⟩
theorem RepL.mono(e:Ext ρ H ρ' H'):∀{ds:List D}{vs:List V},RepL K mg ρ H ds vs->RepL K mg ρ' H' ds vs
 | [],_,h=>h
 | d::ds,_,h=>by unfold RepL at h ⊢;obtain⟨v,r,e1,h1,h2⟩:=h;exact⟨v,r,e1,Rep.mono e h1,RepL.mono e h2⟩
end
theorem RepL.nil:RepL K mg ρ H [] []:=by unfold RepL;rfl
theorem RepL.cons{d ds v vs}(h:Rep K mg ρ H d v)(t:RepL K mg ρ H ds vs):RepL K mg ρ H (d::ds) (v::vs):=by unfold RepL;exact⟨v,vs,rfl,h,t⟩
theorem RepL.length:∀{ds:List D}{vs:List V},RepL K mg ρ H ds vs->ds.length=vs.length
 | [],_,h=>by unfold RepL at h;subst h;rfl
 | d::ds,_,h=>by unfold RepL at h;obtain⟨v,r,rfl,_,h2⟩:=h;rw[List.length_cons,List.length_cons,h2.length]
theorem RepL.get:∀{ds:List D}{vs:List V}{i:Nat}{d:D},RepL K mg ρ H ds vs->ds[i]? = some d->∃v,vs[i]? = some v/\Rep K mg ρ H d v
 | [],_,_,_,_,e=>by simp at e
 | d::ds,_,0,x,h,e=>by unfold RepL at h;obtain⟨v,r,rfl,h1,_⟩:=h;simp at e;subst e;exact⟨v,rfl,h1⟩
 | d::ds,_,i+1,x,h,e=>by unfold RepL at h;obtain⟨v,r,rfl,_,h2⟩:=h;obtain⟨u,e1,e2⟩:=RepL.get (i:=i) (d:=x) h2 (by simpa using e);exact⟨u,by simpa using e1,e2⟩
theorem RepL.append:∀{ds es:List D}{vs us:List V},RepL K mg ρ H ds vs->RepL K mg ρ H es us->RepL K mg ρ H (ds++es) (vs++us)
 | [],_,_,_,h,t=>by unfold RepL at h;subst h;exact t
 | d::ds,_,_,_,h,t=>by unfold RepL at h;obtain⟨v,r,rfl,h1,h2⟩:=h;exact RepL.cons h1 (RepL.append h2 t)
theorem RepL.take:∀{ds:List D}{vs:List V} (n:Nat),RepL K mg ρ H ds vs->RepL K mg ρ H (ds.take n) (vs.take n)
 |_,_,0,_=>by simpa using RepL.nil
 | [],_,_+1,h=>by unfold RepL at h;subst h;simpa using RepL.nil
 | d::ds,_,n+1,h=>by unfold RepL at h;obtain⟨v,r,rfl,h1,h2⟩:=h;exact RepL.cons h1 (RepL.take n h2)
theorem RepL.drop:∀{ds:List D}{vs:List V} (n:Nat),RepL K mg ρ H ds vs->RepL K mg ρ H (ds.drop n) (vs.drop n)
 |_,_,0,h=>by simpa using h
 | [],_,_+1,h=>by unfold RepL at h;subst h;simpa using RepL.nil
 | d::ds,_,n+1,h=>by unfold RepL at h;obtain⟨v,r,rfl,h1,h2⟩:=h;simpa using RepL.drop n h2
theorem RepL.reverse:∀{ds:List D}{vs:List V},RepL K mg ρ H ds vs->RepL K mg ρ H ds.reverse vs.reverse
 | [],_,h=>by unfold RepL at h;subst h;exact RepL.nil
 | d::ds,_,h=>by unfold RepL at h;obtain⟨v,r,rfl,h1,h2⟩:=h;rw[z8g,z8g];exact RepL.append (RepL.reverse h2) (RepL.cons h1 RepL.nil)
end
def zv8(K:zFr)(mg:zMg)(ρ:List Addr)(H:Hp)(fs:List (Str×D))(vs:List (Str×V)):Prop :=
 vs.map (·.1)=fs.map (·.1)/\RepL K mg ρ H (fs.map (·.2)) (vs.map (·.2))
def zvx(K:zFr)(mg:zMg)(x:Str)(a:Addr):Prop:=∃(f:Addr) (o:Obj) (fd:FuncData) (c:Addr),mg x=some (.ref f)/\K.lookup f=some o/\o.data=.func fd/\fd.code=.ref c/\PySem.W.codeHdIn K c a=true
def MOk(K:zFr)(mg:zMg)(ρ:List Addr)(H:Hp)(a:Addr):MO->Prop
 | .lst ds=>∃vs,H a=some (.lst vs)/\RepL K mg ρ H ds vs
 | .ins c fs=>∃C dx vs,mg c=some (.ref C)/\H a=some (.ins C dx vs)/\zv8 K mg ρ H fs vs
 | .dct kvs=>∃vs:List (Key×V),H a=some (.dK vs)/\vs.map (·.1)=kvs.map (fun p=>Sum.inl p.1)/\RepL K mg ρ H (kvs.map (·.2)) (vs.map (·.2))
 | .exc c=>∃C,mg c=some (.ref C)/\H a=some (.ext fun h=>∃o,h.get? a=some o/\o.cls=.ref C)
 | .tab x q=>zvx K mg x a/\∃ps:Array Value,H a=some (.tbl ps)/\TriplesOk ps.toList/\∀(pos:Pos) (cv:Value),codeAmong pos ps.toList=some cv->∃c,cv=.ref c/\c∉ρ/\H c=some (.ext (yj c q))
structure StOk (K:zFr) (mg:zMg) (ρ:List Addr) (H:Hp) (S:Sto):Prop where
 len:ρ.length=S.length
 nd:ρ.Nodup
 ob:∀(i:Nat) (m:MO) (a:Addr),S[i]? = some m->ρ[i]? = some a->MOk K mg ρ H a m
section
variable {K:zFr}{mg:zMg}{ρ ρ':List Addr}{H H':Hp}{S:Sto}
theorem MOk.mono{a m}(h:MOk K mg ρ H a m)(e:Ext ρ H ρ' H')(k:H' a=H a):MOk K mg ρ' H' a m:=by
 cases m with
 |lst ds=>obtain⟨vs,h1,h2⟩:=h;exact⟨vs,k.trans h1,h2.mono e⟩
 |ins c fs=>obtain⟨C,dx,vs,h0,h1,h2,h3⟩:=h;exact⟨C,dx,vs,h0,k.trans h1,h2,h3.mono e⟩
 |dct kvs=>obtain⟨vs,h1,h2,h3⟩:=h;exact⟨vs,k.trans h1,h2,h3.mono e⟩
 |exc c=>obtain⟨C,h1,h2⟩:=h;exact⟨C,h1,k.trans h2⟩
 | tab x q=>
   obtain⟨h0,ps,h1,h2,h3⟩:=h;exact⟨h0,ps,k.trans h1,h2,fun pos cv z=>let⟨c,z1,z2,z3⟩:=h3 pos cv z;⟨c,z1,e.out z3 z2,e.keep _ _ z3 z2⟩⟩
theorem MOk.some{a m}(h:MOk K mg ρ H a m):∃o,H a=some o:=by
 cases m with
 |lst ds=>obtain⟨vs,h1,h2⟩:=h;exact⟨_,h1⟩
 |ins c fs=>obtain⟨C,dx,vs,h0,h1,h2,h3⟩:=h;exact⟨_,h1⟩
 |dct kvs=>obtain⟨vs,h1,h2,h3⟩:=h;exact⟨_,h1⟩
 |exc c=>obtain⟨C,h1,h2⟩:=h;exact⟨_,h2⟩
 |tab x q=>obtain⟨_,ps,h1,_⟩:=h;exact⟨_,h1⟩
theorem StOk.at(s:StOk K mg ρ H S){i:Nat}{a:Addr}(h:ρ[i]? = some a):∃m,S[i]? = some m/\MOk K mg ρ H a m:=by
 have hi:i<ρ.length:=(z42.mp h).1;have hj:i<S.length:=by rw[<-s.len];exact hi
 exact⟨S[i],z4x hj,s.ob i _ a (z4x hj) h⟩
theorem StOk.adr(s:StOk K mg ρ H S){i:Nat}{m:MO}(h:S[i]? = some m):∃a,ρ[i]? = some a/\MOk K mg ρ H a m:=by
 have hi:i<S.length:=(z42.mp h).1;have hj:i<ρ.length:=by rw[s.len];exact hi
 exact⟨ρ[i],z4x hj,s.ob i m _ h (z4x hj)⟩
theorem StOk.mem(s:StOk K mg ρ H S){a}(h:a∈ρ):∃o,H a=some o:=by obtain⟨i,hi,e⟩:=List.mem_iff_getElem.mp h;obtain⟨m,_,q⟩:=s.at (i:=i) (a:=a) (by rw[z4x hi,e]);exact q.some
theorem StOk.fresh(s:StOk K mg ρ H S){p}(h:H p=none):p∉ρ:=fun z=>by obtain⟨o,e⟩:=s.mem z;rw[h]at e;cases e
theorem jl(s:StOk K mg ρ H S){p:Addr}(o:HO)(h:H p=none):Ext ρ H ρ (upd H p o) :=
 ⟨fun _ _ e=>e,fun b u e _=>by rw[z0 (qv e h)];exact e,fun _ z n=>absurd z n⟩
theorem StOk.new(s:StOk K mg ρ H S){p:Addr}(o:HO)(h:H p=none):StOk K mg ρ (upd H p o) S :=
 ⟨s.len,s.nd,fun i m a e1 e2=>by
   have q:=s.ob i m a e1 e2;obtain⟨u,z⟩:=q.some;exact q.mono (jl s o h) (z0 (qv z h))⟩
theorem zf0(s:StOk K mg ρ H S){i:Nat}{a:Addr}(o:HO)(h:ρ[i]? = some a):Ext ρ H ρ (upd H a o) :=
 ⟨fun _ _ e=>e,fun b u e n=>by rw[z0 (fun(z:b=a)=>n (by rw[z];exact z5t h))];exact e,fun _ z n=>absurd z n⟩
theorem zjq{l:List Addr}(hN:l.Nodup){i j:Nat}{x:Addr}(a:l[i]? = some x)(b:l[j]? = some x):i=j:=by obtain⟨h1,e1⟩:=z42.mp a;obtain⟨h2,e2⟩:=z42.mp b;exact(z98 hN).mp (e1.trans e2.symm)
theorem StOk.set(s:StOk K mg ρ H S){i:Nat}{a:Addr}{o:HO}{m:MO}(h:ρ[i]? = some a)(q:MOk K mg ρ (upd H a o) a m):StOk K mg ρ (upd H a o) (S.set i m):=by
 refine⟨by rw[z7y];exact s.len,s.nd,fun j m' b e1 e2=>?_⟩;by_cases hj:j=i
 · subst hj;have hi:j<S.length:=by rw[<-s.len];exact(z42.mp h).1
   rw[z51 hi]at e1;cases e1;rw[h]at e2;cases e2;exact q
 · rw[z6j (z7e hj)]at e1;exact(s.ob j m' b e1 e2).mono (zf0 s o h) (z0 fun z=>hj (zjq s.nd (z▸e2) h))
theorem zcg(s:StOk K mg ρ H S){p:Addr}(o:HO)(h:H p=none):Ext ρ H (ρ++[p]) (upd H p o) :=
 ⟨fun i a e=>by rw[z5v (z42.mp e).1];exact e,fun b u e _=>by rw[z0 (qv e h)];exact e,
   fun b z n=>by
     rcases z5k.mp z with z | z
     · exact absurd z n
     · rw[z43.mp z];exact h⟩
theorem StOk.add(s:StOk K mg ρ H S){p:Addr}{o:HO}{m:MO}(h:H p=none)(q:MOk K mg (ρ++[p]) (upd H p o) p m):StOk K mg (ρ++[p]) (upd H p o) (S++[m]):=by
 refine⟨by rw[z4t,z4t,s.len]<;>rfl,?_,fun j m' b e1 e2=>?_⟩
 · rw[z85];refine⟨s.nd,by simp,fun x hx y hy=>?_⟩;rw[z43.mp hy];exact fun z=>s.fresh h (z▸hx)
 · by_cases hj:j<S.length
   · rw[z5v hj]at e1;rw[z5v (by rw[s.len];exact hj)]at e2;have q:=s.ob j m' b e1 e2;obtain⟨u,z⟩:=q.some;exact q.mono (zcg s o h) (z0 (qv z h))
   · rw[z5i (by omega)]at e1;rw[z5i (by rw[s.len];omega)]at e2;have e0:j-S.length=0:=by have:=(z42.mp e1).1;simp at this;omega
     rw[e0]at e1;rw[s.len,e0]at e2;simp at e1 e2;subst e1 e2;exact q
theorem Rep.tup{p ds vs}{s:StOk K mg ρ H S}(h:H p=none)(r:RepL K mg ρ H ds vs):Rep K mg ρ (upd H p (.tup vs)) (.tup ds) (.ref p):=by unfold Rep;exact⟨p,vs,rfl,.inl ⟨s.fresh h,.inl qg⟩,r.mono (jl s _ h)⟩
theorem Rep.lst{p ds vs}{s:StOk K mg ρ H S}(h:H p=none)(r:RepL K mg ρ H ds vs):Rep K mg ρ (upd H p (.lst vs)) (.lst ds) (.ref p):=by unfold Rep;exact⟨p,vs,rfl,.inl ⟨s.fresh h,.inl qg⟩,r.mono (jl s _ h)⟩
end
structure EnvR (K:zFr) (mg:zMg) (ρ:List Addr) (H:Hp) (ev:Ev) (σ:St):Prop where
 len:ev.length=σ.length
 at_:∀(i:Nat) (d:D),ev[i]? = some (some d)->∃v,σ[i]? = some (some v)/\Rep K mg ρ H d v
section
variable {K:zFr}{mg:zMg}{ρ ρ':List Addr}{H H':Hp}{ev:Ev}{σ:St}
theorem EnvR.mono(h:EnvR K mg ρ H ev σ)(e:Ext ρ H ρ' H'):EnvR K mg ρ' H' ev σ :=
 ⟨h.len,fun i d q=>let⟨v,a,b⟩:=h.at_ i d q;⟨v,a,b.mono e⟩⟩
theorem EnvR.set(h:EnvR K mg ρ H ev σ){d v}(r:Rep K mg ρ H d v)(i:Nat):EnvR K mg ρ H (ev.set i (some d)) (σ.set i (some v)):=by
 refine⟨by rw[z7y,z7y];exact h.len,fun j x q=>?_⟩;by_cases hj:j=i
 · subst hj;have hi:j<ev.length:=by
     have:=(z42.mp q).1
     rwa [z7y]at this
   rw[z51 hi]at q;cases q;exact⟨v,by rw[z51 (by rw[<-h.len];exact hi)],r⟩
 · rw[z6j (z7e hj)]at q ⊢;exact h.at_ j x q
theorem EnvR.start{N:List Str}{ds:List D}{vs:List V}(h:RepL K mg ρ H ds vs):EnvR K mg ρ H (ds.map some++List.replicate (N.length-ds.length) none) (L2.start N vs):=by
 have hl:=h.length;refine⟨by unfold L2.start;simp[hl],fun i d q=>?_⟩;have hi:i<ds.length:=by
   by_cases hi:i<ds.length
   · exact hi
   · rw[z5i (by simpa using hi),List.getElem?_replicate]at q;split at q<;>cases q
 rw[z5v (by simpa using hi),z54]at q;cases e:ds[i]? with
 |none=>rw[e]at q;cases q
 | some x=>
   rw[e]at q;cases q;obtain⟨v,e1,r⟩:=h.get e;refine⟨v,?_,r⟩;unfold L2.start;rw[z5v (by simpa [<-hl] using hi),z54,e1];rfl
end
section
variable (K:zFr) (mg:zMg)
def tE(f:E):TE:=fun σ H Q=>∃ρ ev S d S',EnvR K mg ρ H ev σ/\StOk K mg ρ H S/\f ev S=some (d,S') /\
 ∀v ρ' H',Ext ρ H ρ' H'->StOk K mg ρ' H' S'->Rep K mg ρ' H' d v->Q v H'
def tB(f:B):TT:=fun σ H Q=>∃ρ ev S b S',EnvR K mg ρ H ev σ/\StOk K mg ρ H S/\f ev S=some (b,S') /\
 ∀ρ' H',Ext ρ H ρ' H'->StOk K mg ρ' H' S'->Q b H'
def tAs(f:As):TA:=fun σ H Q=>∃ρ ev S ds S',EnvR K mg ρ H ev σ/\StOk K mg ρ H S/\f ev S=some (ds,S') /\
 ∀vs ρ' H',Ext ρ H ρ' H'->StOk K mg ρ' H' S'->RepL K mg ρ' H' ds vs->Q vs H'
def Post(D:Ends)(S':Sto)(ρ:List Addr)(H:Hp):Out->Prop
 | .nx e=>∀σ' ρ' H',Ext ρ H ρ' H'->StOk K mg ρ' H' S'->EnvR K mg ρ' H' e σ'->D.nx σ' H'
 | .bk e=>∀σ' ρ' H',Ext ρ H ρ' H'->StOk K mg ρ' H' S'->EnvR K mg ρ' H' e σ'->D.bk σ' H'
 | .ct e=>∀σ' ρ' H',Ext ρ H ρ' H'->StOk K mg ρ' H' S'->EnvR K mg ρ' H' e σ'->D.ct σ' H'
 | .rt d=>∀v ρ' H',Ext ρ H ρ' H'->StOk K mg ρ' H' S'->Rep K mg ρ' H' d v->D.rt v H'
def tC(f:C):TS:=fun D σ H=>∃ρ ev S o S',EnvR K mg ρ H ev σ/\StOk K mg ρ H S/\f ev S=some (o,S')/\Post K mg D S' ρ H o
def spG(g:G):Sp:=fun vs H Q _=>∃ρ ds S d S',RepL K mg ρ H ds vs/\StOk K mg ρ H S/\g ds S=some (d,S') /\
 ∀v ρ' H',Ext ρ H ρ' H'->StOk K mg ρ' H' S'->Rep K mg ρ' H' d v->Q v H'
end
theorem Post.ext{K mg}{D:Ends}{S':Sto}{ρ ρ' H H'}(e:Ext ρ H ρ' H'):∀{o:Out},Post K mg D S' ρ H o->Post K mg D S' ρ' H' o
 | .nx _,h=>fun σ' _ _ e'=>h σ' _ _ (e.trans e')
 | .bk _,h=>fun σ' _ _ e'=>h σ' _ _ (e.trans e')
 | .ct _,h=>fun σ' _ _ e'=>h σ' _ _ (e.trans e')
 | .rt _,h=>fun v _ _ e'=>h v _ _ (e.trans e')
def FE(X:Cx)(e:Expr)(f:E):Prop:=PE X e (tE X.K X.mg f)
def FB(X:Cx)(e:Expr)(f:B):Prop:=PT X e (tB X.K X.mg f)
def FW(X:Cx)(e:Expr)(f:B):Prop:=PW X e (tB X.K X.mg f)
def FA(X:Cx)(es:List Expr)(f:As):Prop:=PA X es (tAs X.K X.mg f)
def FS(X:Cx)(st:Stmt)(f:C):Prop:=PS X st (tC X.K X.mg f)
def FSs(X:Cx)(st:List Stmt)(f:C):Prop:=PSs X st (tC X.K X.mg f)
theorem qz{X:Cx}{e:Expr}{t t':TE}(h:PE X e t)(m:∀σ H Q,t' σ H Q->t σ H Q):PE X e t':=fun pins s σ H Q I q=>h pins s σ H Q I (m _ _ _ q)
theorem zc9{X:Cx}{e:Expr}{t t':TT}(h:PT X e t)(m:∀σ H Q,t' σ H Q->t σ H Q):PT X e t':=fun pins s σ H Q I q=>h pins s σ H Q I (m _ _ _ q)
theorem zm6{X:Cx}{e:Expr}{t t':TT}(h:PW X e t)(m:∀σ H Q,t' σ H Q->t σ H Q):PW X e t':=fun w pins s σ H Q I q=>h w pins s σ H Q I (m _ _ _ q)
theorem zfj{X:Cx}{e:List Expr}{t t':TA}(h:PA X e t)(m:∀σ H Q,t' σ H Q->t σ H Q):PA X e t':=fun pos pins s σ H Q I q=>h pos pins s σ H Q I (m _ _ _ q)
theorem yc{X:Cx}{e:Stmt}{t t':TS}(h:PS X e t)(m:∀σ H Q,t' Q σ H->t Q σ H):PS X e t':=fun pins s σ H Q I q=>h pins s σ H Q I (m _ _ _ q)
theorem zjl{X:Cx}{e:List Stmt}{t t':TS}(h:PSs X e t)(m:∀σ H Q,t' Q σ H->t Q σ H):PSs X e t':=fun pins s σ H Q I q=>h pins s σ H Q I (m _ _ _ q)
end F
namespace F
open PySem L2
noncomputable def eV(i:Nat):E:=fun ev S=>match ev[i]? with
 |some (some d)=>some (d,S)
 |_=>none
noncomputable def eK(d:D):E:=fun _ S=>some (d,S)
def e1(op:D->Option D)(f:E):E:=fun ev S=>(f ev S).bind fun p=>(op p.1).map fun d=>(d,p.2)
def e2(op:D->D->Option D)(f g:E):E:=fun ev S=>(f ev S).bind fun p=>(g ev p.2).bind fun q=>(op p.1 q.1).map fun d=>(d,q.2)
def e2s(op:Sto->D->D->Option D)(f g:E):E:=fun ev S=>(f ev S).bind fun p=>(g ev p.2).bind fun q=>(op q.2 p.1 q.1).map fun d=>(d,q.2)
def aN:As:=fun _ S=>some ([],S)
def aC(f:E)(g:As):As:=fun ev S=>(f ev S).bind fun p=>(g ev p.2).bind fun q=>some (p.1::q.1,q.2)
def eA(op:Sto->List D->Option D)(g:As):E:=fun ev S=>(g ev S).bind fun q=>(op q.2 q.1).map fun d=>(d,q.2)
def zm(g:G)(a:As):E:=fun ev S=>(a ev S).bind fun q=>g q.1 q.2
def zdt(c:Str)(S:Sto):D->Option (Nat×List (Str×D))
 | .obj i=>match S[i]? with
   |some (.ins c' fs)=>if c'=c then some (i,fs)else none
   |_=>none
 |_=>none
def x5(c m:Str)(g:G)(f:E)(a:As):E:=fun ev S=>(f ev S).bind fun p=>(zdt c p.2 p.1).bind fun r=>if r.2.lookup m=none then (a ev p.2).bind fun q=>g (p.1::q.1) q.2 else none
def zou(c:Str)(g:G)(a:As):E:=fun ev S=>(a ev S).bind fun q=>(g (.obj q.2.length::q.1) (q.2++[.ins c []])).bind fun r=>match r.1 with
 | .non=>some (.obj q.2.length,r.2)
 |_=>none
def zv4(c n:Str)(f:E):E:=fun ev S=>(f ev S).bind fun p=>(zdt c p.2 p.1).bind fun r=>(r.2.lookup n).map fun d=>(d,p.2)
def zot(g:As):E:=fun ev S=>(g ev S).bind fun q=>if q.1.length<=sizeLine then some (.obj q.2.length,q.2++[.lst q.1])else none
def zaj(g:As):E:=eA (fun _ ds=>if ds.length<=sizeLine then some (.tup ds)else none) g
def zly(g:As):E:=eA (fun _ ds=>if ds.length<=sizeLine then some (.lst ds)else none) g
def bE(f:E):B:=fun ev S=>(f ev S).bind fun p=>match p.1 with
 | .bl b=>some (b,p.2)
 |_=>none
def zel(f:B):B:=fun ev S=>(f ev S).map fun p=>(!p.1,p.2)
def zv6(f g:B):B:=fun ev S=>(f ev S).bind fun p=>if p.1=true then g ev p.2 else some (false,p.2)
def bOr(f g:B):B:=fun ev S=>(f ev S).bind fun p=>if p.1=true then some (true,p.2)else g ev p.2
def zzs(f:E):E:=e1 (fun d=>match d with | .bl b=>some (.bl !b) | _=>none) f
def zpe(f g:E):E:=fun ev S=>(f ev S).bind fun p=>match p.1 with
 | .bl true=>g ev p.2
 | .bl false=>some (.bl false,p.2)
 |_=>none
def jw:C:=fun ev S=>some (.nx ev,S)
def qa(a b:C):C:=fun ev S=>(a ev S).bind fun p=>match p.1 with
 | .nx e=>b e p.2
 |o=>some (o,p.2)
def qu(f:E):C:=fun ev S=>(f ev S).map fun p=>(.rt p.1,p.2)
def zw1:C:=fun _ S=>some (.rt .non,S)
def zbf(f:E):C:=fun ev S=>(f ev S).map fun p=>(.nx ev,p.2)
def q9(i:Nat)(f:E):C:=fun ev S=>(f ev S).map fun p=>(.nx (ev.set i (some p.1)),p.2)
def sIf(c:B)(a b:C):C:=fun ev S=>(c ev S).bind fun p=>if p.1=true then a ev p.2 else b ev p.2
def zck:C:=fun _ _=>none
def zsd(n:Str)(d:D):List (Str×D)->List (Str×D)
 | []=>[(n,d)]
 | (g,x)::r=>if g=n then (g,d)::r else (g,x)::zsd n d r
def zkz(c n:Str)(o v:E):C:=fun ev S=>(v ev S).bind fun p=>(o ev p.2).bind fun q=>(zdt c q.2 q.1).bind fun r=>if r.2.length<1000 then some (.nx ev,q.2.set r.1 (.ins c (zsd n p.1 r.2)))else none
def z33(o i v:E):C:=fun ev S=>(v ev S).bind fun p=>(o ev p.2).bind fun q=>(i ev q.2).bind fun r=>match q.1,r.1 with
 | .obj a,.int k=>(match r.2[a]? with
   |some (.lst ds)=>(ixN ds.length k).map fun j=>(.nx ev,r.2.set a (.lst (ds.set j p.1)))
   |_=>none)
 |_,_=>none
def zap(o v:E):C:=fun ev S=>(o ev S).bind fun q=>match q.1 with
 | .obj a=>(match q.2[a]? with
   | some (.lst _)=>(v ev q.2).bind fun p=>(match p.2[a]? with
     |some (.lst ds)=>if ds.length<sizeLine then some (.nx ev,p.2.set a (.lst (ds++[p.1])))else none
     |_=>none)
   |_=>none)
 |_=>none
def zbb(i:Nat)(body:C):List D->Ev->Sto->Option (Out×Sto)
 | [],ev,S=>some (.nx ev,S)
 | d::ds,ev,S=>(body (ev.set i (some d)) S).bind fun p=>match p.1 with
   | .nx e=>zbb i body ds e p.2
   | .ct e=>zbb i body ds e p.2
   | .bk e=>some (.nx e,p.2)
   | .rt x=>some (.rt x,p.2)
def zpt(i:Nat)(f:E)(body:C):C:=fun ev S=>(f ev S).bind fun p=>match p.1 with
 | .lst ds=>zbb i body ds ev p.2
 |_=>none
def q8(lo:Int)(n:Nat):List D:=(List.range n).map fun k:Nat=>D.int (lo+(k:Int))
def zky(i:Nat)(f:E)(body:C):C:=fun ev S=>(f ev S).bind fun p=>match p.1 with
 | .int j=>if -(2^62)<=j/\j<2^62 then zbb i body (q8 0 j.toNat) ev p.2 else none
 |_=>none
def z5(N n:Nat)(c:C):G:=fun ds S=>if ds.length=n then (match c (ds.map some++List.replicate (N-ds.length) none) S with
 |some (.nx _,S1)=>some (.non,S1)
 |some (.rt d,S1)=>some (d,S1)
 |_=>none)else none
theorem zv{α β:Type}{o:Option α}{f:α->Option β}{b:β}(h:o.bind f=some b):∃a,o=some a/\f a=some b:=by
 cases o with
 |none=>cases h
 |some a=>exact⟨a,rfl,h⟩
theorem yz{α β:Type}{o:Option α}{f:α->β}{b:β}(h:o.map f=some b):∃a,o=some a/\f a=b:=by
 cases o with
 |none=>cases h
 |some a=>exact⟨a,rfl,z53 h⟩
section
variable {X:Cx}
def ze7(K:zFr)(mg:zMg)(R:R2)(op:Sto->D->D->Option D):Prop :=
 ∀(ρ:List Addr) (H:Hp) (S:Sto) (x y:V) (dx dy d:D) (Q:VK),StOk K mg ρ H S->Rep K mg ρ H dx x->Rep K mg ρ H dy y->op S dx dy=some d ->
   (∀v H',Ext ρ H ρ H'->StOk K mg ρ H' S->Rep K mg ρ H' d v->Q v H')->R x y H Q
def zry(K:zFr)(mg:zMg)(R:List V->Hp->VK->Prop)(op:Sto->List D->Option D):Prop :=
 ∀(ρ:List Addr) (H:Hp) (S:Sto) (xs:List V) (ds:List D) (d:D) (Q:VK),StOk K mg ρ H S->RepL K mg ρ H ds xs->op S ds=some d ->
   (∀v H',Ext ρ H ρ H'->StOk K mg ρ H' S->Rep K mg ρ H' d v->Q v H')->R xs H Q
section
variable {K:zFr}{mg:zMg}{R R':R2}{op op':Sto->D->D->Option D}
theorem t2(hs:ze7 K mg R op){f g:E}{σ:St}{H:Hp}{Q:VK}(h:tE K mg (e2s op f g) σ H Q):tOp R (tE K mg f) (tE K mg g) σ H Q:=by obtain⟨ρ,ev,S,d,S',hE,hS,hf,k⟩:=h;obtain⟨⟨x,S1⟩,q1,hf⟩:=zv hf;obtain⟨⟨y,S2⟩,q2,hf⟩:=zv hf;obtain⟨z,q3,hf⟩:=yz hf;cases hf;refine⟨ρ,ev,S,x,S1,hE,hS,q1,fun v ρ1 H1 E1 hS1 r1=>⟨ρ1,ev,S1,y,S2,hE.mono E1,hS1,q2,fun u ρ2 H2 E2 hS2 r2=>?_⟩⟩;exact hs ρ2 H2 _ v u x y _ Q hS2 (r1.mono E2) r2 q3 fun w H' E3 hS3 r3=>k w ρ2 H' ((E1.trans E2).trans E3) hS3 r3
end
theorem ze3{o:Operator}{R:R2}{op:Sto->D->D->Option D}{a b:Expr}{f g:E}{pos:Pos}(ho:OpR X (binaryOp o) R)(hs:ze7 X.K X.mg R op)(ha:FE X a f)(hb:FE X b g):FE X (.BinOp a o b pos) (e2s op f g) :=
 qz (z1o ho ha hb) fun _ _ _ h=>t2 hs h
theorem zg2{o:CmpOp}{R:R2}{op:Sto->D->D->Option D}{a b:Expr}{f g:E}{pos:Pos}(ho:OpR X (compareOp o) R)(hs:ze7 X.K X.mg R op)(ha:FE X a f)(hb:FE X b g)(hm:behindInMarks o b=false):FE X (.Compare a [o] [b] pos) (e2s op f g) :=
 qz (zuo ho ha hb hm) fun _ _ _ h=>t2 hs h
theorem ztl{K mg}{f:E}{t:TE}{σ:St}{H:Hp}{Q:Bool->Hp->Prop}(m:∀Q,tE K mg f σ H Q->t σ H Q)(h:tB K mg (bE f) σ H Q):zpn t σ H Q:=by
 obtain⟨ρ,ev,S,b,S',hE,hS,hf,k⟩:=h;obtain⟨⟨x,S1⟩,q1,hf⟩:=zv hf;cases x with
 | bl c=>
   cases hf;refine m _ ⟨ρ,ev,S,_,_,hE,hS,q1,fun v ρ1 H1 E1 hS1 r1=>?_⟩;exact⟨b,r1,k ρ1 H1 E1 hS1⟩
 |_=>cases hf
theorem zbz{o:CmpOp}{R:R2}{op:Sto->D->D->Option D}{a b:Expr}{f g:E}{pos:Pos}(ho:OpR X (compareOp o) R)(hs:ze7 X.K X.mg R op)(ha:FE X a f)(hb:FE X b g)(hm:behindInMarks o b=false):FB X (.Compare a [o] [b] pos) (bE (e2s op f g)) :=
 zc9 (zuh ho ha hb hm) fun _ _ _ h=>ztl (fun _ h=>t2 hs h) h
theorem zf(i:Nat){x:Str}{pos:Pos}(hN:X.N[i]? = some x:=by rfl)(hv:Vis X.env.scope x:=by first | exact Or.inl rfl | exact Or.inr (Or.inl rfl) | exact Or.inr (Or.inr rfl))(hd:(x==("__debug__":Str))=false:=by decide)
   (hcd:(x==("__classdict__":Str))=false:=by decide):FE X (.Name x pos) (eV i) :=
 qz (zxo hN hv hd hcd) fun σ H Q h=>by
   obtain⟨ρ,ev,S,d,S',hE,hS,hf,k⟩:=h;unfold eV at hf;split at hf
   · rename_i x e;cases hf;obtain⟨v,e1,r⟩:=hE.at_ i _ e;exact⟨v,e1,k v ρ H (Ext.refl _ _) hS r⟩
   · cases hf
theorem zab{e:Expr}{v:V}{d:D}(h:PE X e (L2.tC v))(r:∀ρ H,Rep X.K X.mg ρ H d v):FE X e (eK d) :=
 qz h fun σ H Q h=>by obtain⟨ρ,ev,S,d,S',hE,hS,hf,k⟩:=h;cases hf;exact k v ρ H (Ext.refl _ _) hS (r _ _)
theorem zn{i:Int}{j pos}:FE X (.Constant (.int i) j pos) (eK (.int i)):=zab zxu fun _ _=>rfl
theorem zbi{b:Bool}{j pos}:FE X (.Constant (.bool b) j pos) (eK (.bl b)):=zab z1r fun _ _=>rfl
theorem jp{j pos}:FE X (.Constant .none j pos) (eK .non):=zab zxt fun _ _=>rfl
theorem zdy{x:Str}{j pos}:FE X (.Constant (.str x) j pos) (eK (.str x)):=zab zxq fun _ _=>rfl
theorem zz{x:Str}{n:Int}{pos:Pos}(hm:∃t,X.mg x=some (.int n t))(hg:Gl X x:=by rfl)(hd:(x==("__debug__":Str))=false:=by decide):FE X (.Name x pos) (eK (.int n)):=by obtain⟨t,hm⟩:=hm;exact zab (znf hg hm (v:=.int n) ⟨t,rfl⟩ hd) fun _ _=>rfl
theorem zdz{x:Str}{pos:Pos}(hm:∃f,X.mg x=some (.ref f))(hg:Gl X x:=by rfl)(hd:(x==("__debug__":Str))=false:=by decide):FE X (.Name x pos) (eK (.fn x)):=by obtain⟨f,hm⟩:=hm;exact zab (znf hg hm (v:=.ref f) rfl hd) fun ρ H=>by unfold Rep;exact⟨f,rfl,hm⟩
theorem zd:FA X [] aN:=zfj zng fun σ H Q h=>by obtain⟨ρ,ev,S,d,S',hE,hS,hf,k⟩:=h;cases hf;exact k [] ρ H (Ext.refl _ _) hS RepL.nil
theorem zb{e:Expr}{es:List Expr}{f:E}{g:As}(ha:FE X e f)(hr:FA X es g)(hs:starEach (e::es) X.env=(false,eval e X.env)::starEach es X.env:=by exact zy rfl):FA X (e::es) (aC f g) :=
 zfj (zfk ha hr hs) fun σ H Q h=>by obtain⟨ρ,ev,S,d,S',hE,hS,hf,k⟩:=h;obtain⟨⟨x,S1⟩,q1,hf⟩:=zv hf;obtain⟨⟨y,S2⟩,q2,hf⟩:=zv hf;cases hf;refine⟨ρ,ev,S,x,S1,hE,hS,q1,fun v ρ1 H1 E1 hS1 r1=>⟨ρ1,ev,S1,y,_,hE.mono E1,hS1,q2,fun vs ρ2 H2 E2 hS2 r2=>?_⟩⟩;exact k (v::vs) ρ2 H2 (E1.trans E2) hS2 (RepL.cons (r1.mono E2) r2)
theorem tA{K mg}{R:List V->Hp->VK->Prop}{op:Sto->List D->Option D}(hs:zry K mg R op){g:As}{σ:St}{H:Hp}{Q:VK}(h:tE K mg (eA op g) σ H Q):tAs K mg g σ H fun vs H1=>R vs H1 Q:=by obtain⟨ρ,ev,S,d,S',hE,hS,hf,k⟩:=h;obtain⟨⟨x,S1⟩,q1,hf⟩:=zv hf;obtain⟨z,q3,hf⟩:=yz hf;cases hf;exact⟨ρ,ev,S,x,_,hE,hS,q1,fun vs ρ1 H1 E1 hS1 r1=>hs ρ1 H1 _ vs x _ Q hS1 r1 q3 fun w H' E3 hS3 r3=>k w ρ1 H' (E1.trans E3) hS3 r3⟩
theorem jn{es:List Expr}{g:As}{x1 pos}(h:FA X es g):FE X (.Tuple es x1 pos) (zaj g) :=
 qz (zxp h) fun σ H Q h=>tA (K:=X.K) (mg:=X.mg) (R:=fun xs H1 Q=>xs.length<=sizeLine/\∀p,H1 p=none->Q (.ref p) (upd H1 p (.tup xs))) (fun ρ H S xs ds d Q hS r e k=>by
   split at e
   · rename_i hl;cases e;exact⟨by rw[<-r.length];exact hl,fun p hp=>k _ _ (jl hS _ hp) (hS.new _ hp) (Rep.tup (s:=hS) hp r)⟩
   · cases e) h
theorem zez{es:List Expr}{g:As}{pos}(h:FA X es g):FE X (.List es pos) (zly g) :=
 qz (zsh h) fun σ H Q h=>tA (K:=X.K) (mg:=X.mg) (R:=fun xs H1 Q=>xs.length<=sizeLine/\∀p,H1 p=none->Q (.ref p) (upd H1 p (.lst xs))) (fun ρ H S xs ds d Q hS r e k=>by
   split at e
   · rename_i hl;cases e;exact⟨by rw[<-r.length];exact hl,fun p hp=>k _ _ (jl hS _ hp) (hS.new _ hp) (Rep.lst (s:=hS) hp r)⟩
   · cases e) h
theorem zoh{es:List Expr}{g:As}{pos}(h:FA X es g):FE X (.List es pos) (zot g) :=
 qz (zsh h) fun σ H Q h=>by
   obtain⟨ρ,ev,S,d,S',hE,hS,hf,k⟩:=h;obtain⟨⟨x,S1⟩,q1,hf⟩:=zv hf;dsimp only at hf;split at hf
   · rename_i hl;cases hf;refine⟨ρ,ev,S,x,S1,hE,hS,q1,fun vs ρ1 H1 E1 hS1 r1=>⟨by rw[<-r1.length];exact hl,fun p hp=>?_⟩⟩;refine k _ _ _ (E1.trans (zcg hS1 _ hp)) (hS1.add hp ⟨vs,qg,r1.mono (zcg hS1 _ hp)⟩) ?_;unfold Rep;refine⟨p,rfl,?_⟩;rw[z5i (by rw[hS1.len]<;>exact z4v _),hS1.len];simp
   · cases hf
theorem zg3{id:String}{R:List V->Hp->VK->Prop}{op:Sto->List D->Option D}{x:Str}{p pos:Pos}{e:Expr}{es:List Expr}{g:As}(hc:CallR X (.builtin id) R)(hs:zry X.K X.mg R op)(hm:X.mg x=none)(hv:bootBuiltins x=some (.builtin id))(ha:FA X (e::es) g)
   (hg:Gl X x:=by rfl) (hn:x≠"__name__":=by decide) (hdb:(x==("__debug__":Str))=false:=by decide)
   (he:starEach (e::es) X.env=(false,eval e X.env)::starEach es X.env:=by exact zy rfl) (hpl:(backTo pos (starEach es X.env)).any (·.1)=false:=by exact qx rfl):FE X (.Call (.Name x p) (e::es) [] pos) (eA op g) :=
 qz (zqf hc hg hm hv ha hn hdb he hpl) fun σ H Q h=>tA hs h
theorem z2f{T:String}{R:List V->Hp->VK->Prop}{op:Sto->List D->Option D}{x:Str}{p pos:Pos}{e:Expr}{es:List Expr}{g:As}(hc:CallR X (.type T) R)(hs:zry X.K X.mg R op)(hm:X.mg x=none)(hv:bootBuiltins x=some (.type T))(ha:FA X (e::es) g)
   (hg:Gl X x:=by rfl) (hn:x≠"__name__":=by decide) (hdb:(x==("__debug__":Str))=false:=by decide)
   (he:starEach (e::es) X.env=(false,eval e X.env)::starEach es X.env:=by exact zy rfl) (hpl:(backTo pos (starEach es X.env)).any (·.1)=false:=by exact qx rfl):FE X (.Call (.Name x p) (e::es) [] pos) (eA op g) :=
 qz (zgu hc hg hm hv ha hn hdb he hpl) fun σ H Q h=>tA hs h
end
structure Cal (P:Program) (w:World) (K:zFr) (mg:zMg) (base:Heap) (k:Nat) (x:Str) (g:G):Prop where
 ex:∃(f:Addr) (fd:FuncData) (ps:List Str) (ds:List Value) (dvs:List V) (dds:List D) (gg:G),FnOk P w K mg base CX0 k f fd ps (spG K mg gg)/\mg x=some (.ref f)/\PySem.W.keepIn K (.ref f)=true /\
   Binds K fd ps ds/\Vals dvs ds/\(∀ρ H,RepL K mg ρ H dds dvs)/\∀args S r,g args S=some r->gg (args++dds) S=some r
theorem Cal.mono{P w K mg base j k x g}(c:Cal P w K mg base j x g)(h:j<=k):Cal P w K mg base k x g:=by obtain⟨f,fd,ps,ds,dvs,dds,gg,F,r⟩:=c.ex;exact⟨f,fd,ps,ds,dvs,dds,gg,F.mono h,r⟩
structure Mth (P:Program) (w:World) (K:zFr) (mg:zMg) (base:Heap) (k:Nat) (c m:Str) (g:G):Prop where
 ex:∃(C f:Addr) (fd:FuncData) (ps:List Str) (ds:List Value) (dvs:List V) (dds:List D) (gg:G),FnOk P w K mg base CX0 k f fd ps (spG K mg gg)/\mg c=some (.ref C)/\Cls K C/\Meth K C m f /\
   Binds K fd ps ds/\Vals dvs ds/\(∀ρ H,RepL K mg ρ H dds dvs)/\∀args S r,g args S=some r->gg (args++dds) S=some r
structure Mak (P:Program) (w:World) (K:zFr) (mg:zMg) (base:Heap) (k:Nat) (c:Str) (g:G):Prop where
 ex:∃(C f:Addr) (fd:FuncData) (ps:List Str) (ds:List Value) (dvs:List V) (dds:List D) (gg:G),FnOk P w K mg base CX0 k f fd ps (spG K mg gg)/\mg c=some (.ref C)/\Mk K C f /\
   Binds K fd ps ds/\Vals dvs ds/\(∀ρ H,RepL K mg ρ H dds dvs)/\∀args S r,g args S=some r->gg (args++dds) S=some r
def Fld(K:zFr)(mg:zMg)(c n:Str):Prop:=∀C,mg c=some (.ref C)->Cls K C/\NoAttr K C n
section
variable {X:Cx}{k:Nat}{x c m n:Str}{g:G}{e o:Expr}{es:List Expr}{a:As}{f:E}{p pos apos:Pos}
theorem zjb{K mg}{gg:G}{dds:List D}{dvs:List V}(hdd:∀ρ H,RepL K mg ρ H dds dvs)(hg:∀args S r,g args S=some r->gg (args++dds) S=some r){σ:St}{H:Hp}{Q:VK}(h:tE K mg (zm g a) σ H Q) :
   ztr (spG K mg gg) dvs E0 (tAs K mg a) σ H Q:=by
 obtain⟨ρ,ev,S,d,S',hE,hS,hf,k⟩:=h;obtain⟨⟨ds,S1⟩,q1,hf⟩:=zv hf;exact⟨ρ,ev,S,ds,S1,hE,hS,q1,fun vs ρ1 H1 E1 hS1 r1=>⟨ρ1,ds++dds,S1,d,S',r1.append (hdd ρ1 H1),hS1,hg _ _ _ hf,fun v ρ' H' E' hS' r'=>k v ρ' H' (E1.trans E') hS' r'⟩⟩
theorem zg(cal:Cal X.prog X.w X.K X.mg X.base k x g)(hr:Room k X.A)(ha:FA X (e::es) a)(hg:Gl X x:=by rfl)(hdb:(x==("__debug__":Str))=false:=by decide)
   (he:starEach (e::es) X.env=(false,eval e X.env)::starEach es X.env:=by exact zy rfl) (hpl:(backTo pos (starEach es X.env)).any (·.1)=false:=by exact qx rfl) :
   FE X (.Call (.Name x p) (e::es) [] pos) (zm g a):=by
 obtain⟨f,fd,ps,ds,dvs,dds,gg,F,hm,hk,hb,hd,hdd,hgg⟩:=cal.ex;exact qz (zup F hr hg hm hk hb hd zk4 ha hdb he hpl) fun σ H Q h=>zjb hdd hgg h
theorem zft{c:Str}{S:Sto}{d:D}{r:Nat×List (Str×D)}(h:zdt c S d=some r):d=.obj r.1/\S[r.1]? = some (.ins c r.2):=by
 unfold zdt at h;split at h
 · split at h
   · rename_i i _ c' fs e;split at h
     · rename_i hc;cases h;subst hc;exact⟨rfl,e⟩
     · cases h
   · cases h
 · cases h
theorem zh5{K mg ρ H S}(hS:StOk K mg ρ H S){c:Str}{i:Nat}{fs:List (Str×D)}{v:V}(h:S[i]? = some (.ins c fs))(r:Rep K mg ρ H (.obj i) v) :
   ∃b C dx vs,v=.ref b/\ρ[i]? = some b/\mg c=some (.ref C)/\H b=some (.ins C dx vs)/\zv8 K mg ρ H fs vs:=by
 unfold Rep at r;obtain⟨b,rfl,e⟩:=r;obtain⟨C,dx,vs,h1,h2,h3⟩:=hS.ob i _ b h e;exact⟨b,C,dx,vs,rfl,e,h1,h2,h3⟩
theorem zie{fs:List (Str×D)}{vs:List (Str×V)}{m:Str}(h:vs.map (·.1)=fs.map (·.1))(e:fs.lookup m=none):vs.lookup m=none:=by
 induction fs generalizing vs with
 | nil=>
   cases vs with
   |nil=>rfl
   |cons _ _=>cases h
 | cons q fs ih=>
   cases vs with
   |nil=>cases h
   | cons q' vs=>
     obtain⟨a,b⟩:=q;obtain⟨a',b'⟩:=q';simp only[z5a,z67]at h;obtain⟨h1,h2⟩:=h;subst h1;simp only[List.lookup]at e ⊢;split at e
     · cases e
     · exact ih h2 e
theorem zid{K mg ρ H}{fs:List (Str×D)}{vs:List (Str×V)}{m:Str}{d:D}(h:zv8 K mg ρ H fs vs)(e:fs.lookup m=some d):∃v,vs.lookup m=some v/\Rep K mg ρ H d v:=by
 obtain⟨h,r⟩:=h
 induction fs generalizing vs with
 |nil=>cases e
 | cons q fs ih=>
   cases vs with
   |nil=>cases h
   | cons q' vs=>
     obtain⟨a,b⟩:=q;obtain⟨a',b'⟩:=q';simp only[z5a,z67]at h;obtain⟨h1,h2⟩:=h;subst h1;rw[z5a,z5a]at r;unfold RepL at r;obtain⟨u,t,e1,r1,r2⟩:=r;cases e1;simp only[List.lookup]at e ⊢;split at e
     · cases e;exact⟨_,rfl,r1⟩
     · exact ih e h2 r2
theorem ji(mt:Mth X.prog X.w X.K X.mg X.base k c m g)(hr:Room k X.A)(ho:FE X o f)(ha:FA X (e::es) a){pl:Sem Bool}
   (hst:starEach (e::es) X.env=(false,eval e X.env)::starEach es X.env:=by exact zy rfl) (hpl:(backTo pos (starEach es X.env)).any (·.1)=false:=by exact qx rfl)
   (ht:eval (.Call (.Attribute o m apos) (e::es) [] pos) X.env=(do
     let ov <-eval o X.env
     standAt apos.atName
     let(f,first) <-holding [ov] (getMethod ov m pl)
     callWith pos f first (backTo pos (starEach (e::es) X.env)) (backToKw pos (keywordEach [] X.env))):=by rfl) :
   FE X (.Call (.Attribute o m apos) (e::es) [] pos) (x5 c m g f a):=by
 obtain⟨C,fa,fd,ps,ds,dvs,dds,gg,F,hm,hc,hme,hb,hd,hdd,hgg⟩:=mt.ex;refine qz (zun ho hc hme F hr hb hd zk4 ha hst hpl ht) fun σ H Q h=>?_;obtain⟨ρ,ev,S,d,S',hE,hS,hf,k⟩:=h;obtain⟨⟨y,S1⟩,q1,hf⟩:=zv hf;obtain⟨⟨i,fs⟩,q2,hf⟩:=zv hf;dsimp only at hf q2;split at hf
 · rename_i hl;obtain⟨⟨ys,S2⟩,q3,hf⟩:=zv hf;obtain⟨rfl,hi⟩:=zft q2;refine⟨ρ,ev,S,_,S1,hE,hS,q1,fun v ρ1 H1 E1 hS1 r1=>?_⟩;obtain⟨b,C',dx,vs,rfl,hb1,hm',hb2,hb3⟩:=zh5 hS1 hi r1;have ec:C'=C:=by rw[hm]at hm';cases hm';rfl
   subst ec;refine⟨b,dx,vs,rfl,hb2,zie hb3.1 hl,ρ1,ev,S1,ys,S2,hE.mono E1,hS1,q3,fun us ρ2 H2 E2 hS2 r2=>?_⟩;exact⟨ρ2,_,S2,d,S',(RepL.cons (r1.mono E2) r2).append (hdd ρ2 H2),hS2,hgg _ _ _ hf,fun v ρ' H' E' hS' r'=>k v ρ' H' ((E1.trans E2).trans E') hS' r'⟩
 · cases hf
theorem zpk{K mg}{gg:G}{C:Addr}{dds:List D}{dvs:List V}(hm:mg c=some (.ref C))(hdd:∀ρ H,RepL K mg ρ H dds dvs)(hg:∀args S r,g args S=some r->gg (args++dds) S=some r){σ:St}{H:Hp}{Q:VK}(h:tE K mg (zou c g a) σ H Q) :
   zwn C (spG K mg gg) dvs E0 (tAs K mg a) σ H Q:=by
 obtain⟨ρ,ev,S,d,S',hE,hS,hf,k⟩:=h;obtain⟨⟨ds,S1⟩,q1,hf⟩:=zv hf;obtain⟨⟨y,S2⟩,q2,hf⟩:=zv hf;dsimp only at hf;cases y with
 | non=>
   cases hf;refine⟨ρ,ev,S,ds,S1,hE,hS,q1,fun vs ρ1 H1 E1 hS1 r1=>fun x dx nx ndx ne=>?_⟩;have s0:=hS1.new (.own x) ndx;have nx':upd H1 dx (.own x) x=none:=by rw[z0 (z7e ne)];exact nx
   have e0:=jl hS1 (.own x) ndx;have e1:=zcg s0 (p:=x) (.ins C dx []) nx';have s1:StOk K mg (ρ1++[x]) (upd (upd H1 dx (.own x)) x (.ins C dx [])) (S1++[.ins c []]):=s0.add nx' ⟨C,dx,[],hm,qg,rfl,RepL.nil⟩;have ro:Rep K mg (ρ1++[x]) (upd (upd H1 dx (.own x)) x (.ins C dx [])) (.obj S1.length) (.ref x):=by unfold Rep;refine⟨x,rfl,?_⟩;rw[z5i (by rw[hS1.len]<;>exact z4v _),hS1.len];simp
   refine⟨ρ1++[x],_,_,.non,_,RepL.cons ro ((r1.mono (e0.trans e1)).append (hdd _ _)),s1,hg _ _ _ q2,fun v ρ' H' E' hS' r'=>⟨r',?_⟩⟩;exact k _ ρ' H' (E1.trans ((e0.trans e1).trans E')) hS' (ro.mono E')
 |_=>cases hf
theorem zq1(mk:Mak X.prog X.w X.K X.mg X.base k c g)(hr:Room (k+1) X.A)(hg:Gl X c:=by rfl)(hdb:(c==("__debug__":Str))=false:=by decide) :
   FE X (.Call (.Name c p) [] [] pos) (zou c g aN):=by
 obtain⟨C,f,fd,ps,ds,dvs,dds,gg,F,hm,M,hb,hd,hdd,hgg⟩:=mk.ex;refine qz (zqd M F hr hg hm hb hd zk4 hdb) fun σ H Q h=>?_;have h':=zpk (C:=C) (gg:=gg) hm hdd hgg h;obtain⟨ρ,ev,S,d,S',hE,hS,hf,k⟩:=h';cases hf;exact k [] ρ H (Ext.refl _ _) hS RepL.nil
theorem zsu(hc:Fld X.K X.mg c n)(ho:FE X o f)(hb:attributeBase o n X.env (eval o X.env)=eval o X.env:=by rfl):FE X (.Attribute o n pos) (zv4 c n f) :=
 qz (zxv ho hb) fun σ H Q h=>by obtain⟨ρ,ev,S,d,S',hE,hS,hf,k⟩:=h;obtain⟨⟨y,S1⟩,q1,hf⟩:=zv hf;obtain⟨⟨i,fs⟩,q2,hf⟩:=zv hf;obtain⟨d',q3,hf⟩:=yz hf;cases hf;obtain⟨rfl,hi⟩:=zft q2;refine⟨ρ,ev,S,_,_,hE,hS,q1,fun v ρ1 H1 E1 hS1 r1=>?_⟩;obtain⟨b,C,dx,vs,rfl,hb1,hm',hb2,hb3⟩:=zh5 hS1 hi r1;obtain⟨v,e1,r2⟩:=zid hb3 q3;exact⟨b,C,dx,vs,v,rfl,hb2,(hc C hm').1,(hc C hm').2,e1,k v ρ1 H1 E1 hS1 r2⟩
def zs3(ft:Str->Option G)(f:E)(a:As):E:=fun ev S=>(f ev S).bind fun p=>match p.1 with
 | .fn x=>(ft x).bind fun g=>(a ev p.2).bind fun q=>g q.1 q.2
 |_=>none
theorem zq5{fe:Expr}{ft:Str->Option G}(hT:∀x g,ft x=some g->Cal X.prog X.w X.K X.mg X.base k x g)(hr:Room k X.A)(hf:FE X fe f)(ha:FA X (e::es) a)
   (ht:eval (.Call fe (e::es) [] pos) X.env=(eval fe X.env >>= fun v=>callWith pos v [] (backTo pos (starEach (e::es) X.env)) (backToKw pos (keywordEach [] X.env))):=by rfl)
   (he:starEach (e::es) X.env=(false,eval e X.env)::starEach es X.env:=by exact zy rfl) (hpl:(backTo pos (starEach es X.env)).any (·.1)=false:=by exact qx rfl) :
   FE X (.Call fe (e::es) [] pos) (zs3 ft f a):=by
 intro pins s σ H Q I h;rw[ht];obtain⟨ρ,ev,S,d,S',hE,hS,hf',kk⟩:=h;obtain⟨⟨y,S1⟩,q1,hf'⟩:=zv hf';cases y with
 | fn x=>
   dsimp only at hf';obtain⟨g,hx,hf'⟩:=zv hf';obtain⟨f0,fd,ps,ds,dvs,dds,gg,F,hm,hk,hb,hd,hdd,hgg⟩:=(hT x g hx).ex;refine z4u (thn (hf pins s σ H (fun v H1=>v=.ref f0/\ztr (spG X.K X.mg gg) dvs E0 (tAs X.K X.mg a) σ H1 Q) I ⟨ρ,ev,S,_,S1,hE,hS,q1,fun v ρ1 H1 E1 hS1 r1=>⟨?_,?_⟩⟩) fun u s1 ⟨v,H1,I1,rv,ev1,q⟩=>?_)
   · unfold Rep at r1;obtain⟨b,rfl,e1⟩:=r1;rw[hm]at e1;cases e1;rfl
   · exact zjb (g:=g) hdd hgg ⟨ρ1,ev,S1,d,S',hE.mono E1,hS1,hf',fun v ρ' H' E' hS' r'=>kk v ρ' H' (E1.trans E') hS' r'⟩
   · subst ev1;obtain rfl:u=Value.ref f0:=rv;refine z7r (h₀:=X.base) I.ok.mod.kin hk (thn (ha pos pins s1 σ H1 _ I1 q) fun us s2 ⟨vs,H2,I2,r,q2⟩=>⟨I2.kIn,?_⟩) he hpl;exact zgq F hr hb hd zk4 I2 r q2
 |_=>cases hf'
theorem yr(h:FE X e f)(he:∀whole,isTrue e X.env whole=(do let v <-whole;standAt e.pos;holding [v] (truthy v)):=by intro _;rfl):FB X e (bE f) :=
 zc9 (zxg h he) fun σ H Q h=>by
   obtain⟨ρ,ev,S,b,S',hE,hS,hf,k⟩:=h;obtain⟨⟨x,S1⟩,q1,hf⟩:=zv hf;cases x with
   | bl c=>
     cases hf;exact⟨ρ,ev,S,_,_,hE,hS,q1,fun v ρ1 H1 E1 hS1 r1=>⟨b,r1,k ρ1 H1 E1 hS1⟩⟩
   |_=>cases hf
variable {b:Expr}{rest:List Expr}{u v:B}
theorem zbd(h:FB X e u):FB X (.UnaryOp .Not e pos) (zel u):=zc9 (zxh h) fun σ H Q h=>by obtain⟨ρ,ev,S,b,S',hE,hS,hf,k⟩:=h;obtain⟨⟨x,S1⟩,q1,hf⟩:=yz hf;cases hf;exact⟨ρ,ev,S,_,_,hE,hS,q1,fun ρ1 H1 E1 hS1=>k ρ1 H1 E1 hS1⟩
theorem zvc(h:FB X e u):FW X (.BoolOp .And [e] pos) u:=zug h
theorem zsr(h:FB X e u):FW X (.BoolOp .Or [e] pos) u:=zxd h
theorem zy3(h:FB X e u)(hb:FW X (.BoolOp .And (b::rest) pos) v):FW X (.BoolOp .And (e::b::rest) pos) (zv6 u v):=zm6 (zxf h hb) fun σ H Q h=>by
 obtain⟨ρ,ev,S,b,S',hE,hS,hf,k⟩:=h;obtain⟨⟨x,S1⟩,q1,hf⟩:=zv hf;refine⟨ρ,ev,S,x,S1,hE,hS,q1,fun ρ1 H1 E1 hS1=>?_⟩;cases x with
 |true=>exact z0q ⟨ρ1,ev,S1,b,S',hE.mono E1,hS1,hf,fun ρ2 H2 E2 hS2=>k ρ2 H2 (E1.trans E2) hS2⟩
 |false=>cases hf;exact z0r (k ρ1 H1 E1 hS1)
theorem zvb(h:FB X e u)(hb:FW X (.BoolOp .Or (b::rest) pos) v):FW X (.BoolOp .Or (e::b::rest) pos) (bOr u v):=zm6 (z1i h hb) fun σ H Q h=>by
 obtain⟨ρ,ev,S,b,S',hE,hS,hf,k⟩:=h;obtain⟨⟨x,S1⟩,q1,hf⟩:=zv hf;refine⟨ρ,ev,S,x,S1,hE,hS,q1,fun ρ1 H1 E1 hS1=>?_⟩;cases x with
 |true=>cases hf;exact z0q (k ρ1 H1 E1 hS1)
 |false=>exact z0r ⟨ρ1,ev,S1,b,S',hE.mono E1,hS1,hf,fun ρ2 H2 E2 hS2=>k ρ2 H2 (E1.trans E2) hS2⟩
theorem z2i(h:FW X e u):FB X e u:=h.pt
variable {g1 g2:E}
theorem zog{op}(h:FE X e g1):FE X (.BoolOp op [e] pos) g1:=zxr h
theorem zj7(h:FE X e g1)(hb:FE X (.BoolOp .And (b::rest) pos) g2):FE X (.BoolOp .And (e::b::rest) pos) (zpe g1 g2):=qz (zxx h hb) fun σ H Q h=>by
 obtain⟨ρ,ev,S,d,S',hE,hS,hf,k⟩:=h;obtain⟨⟨x,S1⟩,q1,hf⟩:=zv hf;refine⟨ρ,ev,S,x,S1,hE,hS,q1,fun w ρ1 H1 E1 hS1 r1=>?_⟩;cases x with
 | bl c=>
   refine⟨c,r1,?_⟩;cases c with
   |true=>exact z0q ⟨ρ1,ev,S1,d,S',hE.mono E1,hS1,hf,fun v ρ2 H2 E2 hS2 r2=>k v ρ2 H2 (E1.trans E2) hS2 r2⟩
   |false=>cases hf;exact z0r (k _ ρ1 H1 E1 hS1 rfl)
 |_=>cases hf
theorem zst(h:FE X e g1):FE X (.UnaryOp .Not e pos) (zzs g1):=qz (zxs h) fun σ H Q h=>by
 obtain⟨ρ,ev,S,d,S',hE,hS,hf,k⟩:=h;obtain⟨⟨x,S1⟩,q1,hf⟩:=zv hf;obtain⟨z,q2,hf⟩:=yz hf;cases hf;refine⟨ρ,ev,S,x,_,hE,hS,q1,fun w ρ1 H1 E1 hS1 r1=>?_⟩;cases x with
 |bl c=>cases q2;exact⟨c,r1,k _ ρ1 H1 E1 hS1 rfl⟩
 |_=>cases q2
end
section
variable {X:Cx}{st:Stmt}{rest:List Stmt}{a b body:C}{e o:Expr}{f g h':E}{u:B}{pos pos':Pos}{x c n:Str}
theorem zt:FSs X [] jw:=zjl zuj fun σ H D h=>by obtain⟨ρ,ev,S,o,S',hE,hS,hf,k⟩:=h;cases hf;exact k σ ρ H (Ext.refl _ _) hS hE
theorem ze(h1:FS X st a)(h2:FSs X rest b):FSs X (st::rest) (qa a b):=zjl (zp9 h1 h2) fun σ H D h=>by
 obtain⟨ρ,ev,S,o,S',hE,hS,hf,k⟩:=h;obtain⟨⟨o1,S1⟩,q1,hf⟩:=zv hf;refine⟨ρ,ev,S,o1,S1,hE,hS,q1,?_⟩;cases o1 with
 |nx e=>exact fun σ' ρ' H' E' hS' hE'=>⟨ρ',e,S1,o,S',hE',hS',hf,k.ext E'⟩
 |rt d=>cases hf;exact k
 |bk e=>cases hf;exact k
 |ct e=>cases hf;exact k
theorem zk(h1:FS X st a):FSs X [st] a:=zui h1
theorem zp(h:FE X e f):FS X (.Return (some e) pos) (qu f):=yc (zxj h) fun σ H D h=>by obtain⟨ρ,ev,S,o,S',hE,hS,hf,k⟩:=h;obtain⟨⟨d,S1⟩,q1,hf⟩:=yz hf;cases hf;exact⟨ρ,ev,S,d,_,hE,hS,q1,k⟩
theorem zvd:FS X (.Return none pos) zw1:=yc zuk fun σ H D h=>by obtain⟨ρ,ev,S,o,S',hE,hS,hf,k⟩:=h;cases hf;exact k .non ρ H (Ext.refl _ _) hS rfl
theorem zbx:FS X st zck:=yc zqa fun σ H D h=>by obtain⟨ρ,ev,S,o,S',hE,hS,hf,k⟩:=h;cases hf
theorem zaa(h:FE X e f)(hs:swapsWith e none pos.line X.env=pure false:=by rfl):FS X (.Expr e pos) (zbf f):=yc (zna h hs) fun σ H D h=>by obtain⟨ρ,ev,S,o,S',hE,hS,hf,k⟩:=h;obtain⟨⟨d,S1⟩,q1,hf⟩:=yz hf;cases hf;exact⟨ρ,ev,S,d,_,hE,hS,q1,fun v ρ1 H1 E1 hS1 r1=>k σ ρ1 H1 E1 hS1 (hE.mono E1)⟩
theorem zx(i:Nat)(h:FE X e f)(hN:X.N.Nodup)(hi:X.N[i]? = some x:=by rfl)(hx:Loc X.env.scope x:=by first | exact Or.inl rfl | exact Or.inr rfl)(hs:swapsWith e (some (.Name x pos')) pos.line X.env=pure false:=by rfl)
   (hf:X.fn x=true\/X.env.scope.names.lookup x=some .local:=by first | exact .inl rfl | exact .inr rfl | assumption):FS X (.Assign [.Name x pos'] e pos) (q9 i f) :=
 yc (zxi hN hi hx h hs hf) fun σ H D h=>by obtain⟨ρ,ev,S,o,S',hE,hS,hf,k⟩:=h;obtain⟨⟨d,S1⟩,q1,hf⟩:=yz hf;cases hf;exact⟨ρ,ev,S,d,_,hE,hS,q1,fun v ρ1 H1 E1 hS1 r1=>k _ ρ1 H1 E1 hS1 ((hE.mono E1).set r1 i)⟩
theorem qq(hc:FB X e u){sa sb:List Stmt}(ha:FSs X sa a)(hb:FSs X sb b):FS X (.If e sa sb pos) (sIf u a b):=yc (z1j hc ha hb) fun σ H D h=>by
 obtain⟨ρ,ev,S,o,S',hE,hS,hf,k⟩:=h;obtain⟨⟨x,S1⟩,q1,hf⟩:=zv hf;refine⟨ρ,ev,S,x,S1,hE,hS,q1,fun ρ1 H1 E1 hS1=>?_⟩;cases x with
 |true=>exact z0q ⟨ρ1,ev,S1,o,S',hE.mono E1,hS1,hf,k.ext E1⟩
 |false=>exact z0r ⟨ρ1,ev,S1,o,S',hE.mono E1,hS1,hf,k.ext E1⟩
theorem zsc{K mg ρ H}{n:Str}{d:D}{v:V}(r:Rep K mg ρ H d v):∀{fs:List (Str×D)}{vs:List (Str×V)},zv8 K mg ρ H fs vs->zv8 K mg ρ H (zsd n d fs) (zec n v vs)
 | [],vs,h=>by
   obtain⟨h1,_⟩:=h;cases vs with
   |nil=>exact⟨rfl,RepL.cons r RepL.nil⟩
   |cons _ _=>cases h1
 | (a,b)::fs,vs,h=>by
   obtain⟨h1,h2⟩:=h;cases vs with
   |nil=>cases h1
   | cons q vs=>
     obtain⟨a',b'⟩:=q;simp only[z5a,z67]at h1;obtain⟨h3,h4⟩:=h1;subst h3;rw[z5a,z5a]at h2;unfold RepL at h2;obtain⟨u,t,e1,r1,r2⟩:=h2;cases e1;rw[show zsd n d ((a',b)::fs)=(if a'=n then (a',d)::fs else (a',b)::zsd n d fs)from rfl,show zec n v ((a',b')::vs)=(if a'=n then (a',v)::vs else (a',b')::zec n v vs)from rfl];by_cases hn:a'=n
     · rw[z5g hn,z5g hn];exact⟨by simp[h4],RepL.cons r r2⟩
     · rw[z5n hn,z5n hn];obtain⟨i1,i2⟩:=zsc r (fs:=fs) (vs:=vs) ⟨h4,r2⟩;exact⟨by rw[z5a,z5a,i1],RepL.cons r1 i2⟩
theorem zn8(hc:Fld X.K X.mg c n)(ho:FE X o f)(hv:FE X e g)(hs:swapsWith e (some (.Attribute o n pos')) pos.line X.env=pure false:=by rfl):FS X (.Assign [.Attribute o n pos'] e pos) (zkz c n f g) :=
 yc (zxk ho hv hs) fun σ H D h=>by
   obtain⟨ρ,ev,S,o,S',hE,hS,hf,k⟩:=h;obtain⟨⟨d,S1⟩,q1,hf⟩:=zv hf;obtain⟨⟨y,S2⟩,q2,hf⟩:=zv hf;obtain⟨⟨i,fs⟩,q3,hf⟩:=zv hf;dsimp only at hf q3;split at hf
   · rename_i hl;cases hf;obtain⟨rfl,hi⟩:=zft q3;refine⟨ρ,ev,S,d,S1,hE,hS,q1,fun v ρ1 H1 E1 hS1 r1=>⟨ρ1,ev,S1,_,S2,hE.mono E1,hS1,q2,fun w ρ2 H2 E2 hS2 r2=>?_⟩⟩;obtain⟨b,C,dx,vs,rfl,hb1,hm',hb2,hb3⟩:=zh5 hS2 hi r2;have e0:=zf0 hS2 (.ins C dx (zec n v vs)) hb1;refine⟨b,C,dx,vs,rfl,hb2,(hc C hm').1,(hc C hm').2,by have:=z64 List.length hb3.1;simp at this;omega,?_⟩;have hf2:zv8 X.K X.mg ρ2 (upd H2 b (.ins C dx (zec n v vs))) (zsd n d fs) (zec n v vs):=zsc ((r1.mono E2).mono e0) ⟨hb3.1,hb3.2.mono e0⟩;exact k σ ρ2 _ ((E1.trans E2).trans e0) (hS2.set hb1 ⟨C,dx,_,hm',qg,hf2⟩) (((hE.mono E1).mono E2).mono e0)
   · cases hf
section
variable {K:zFr}{mg:zMg}{ρ1:List Addr}{H1:Hp}{E:Ends}{S':Sto}{o:Out}{i:Nat}
def zpd(K:zFr)(mg:zMg)(ρ1:List Addr)(H1:Hp)(i:Nat)(body:C)(o:Out)(S':Sto)(ds:List D)(σ:St)(H:Hp):Prop :=
 ∃ρ ev S,Ext ρ1 H1 ρ H/\StOk K mg ρ H S/\EnvR K mg ρ H ev σ/\zbb i body ds ev S=some (o,S')
theorem zme{d:D}{ds:List D}{x:V}{σ:St}{H:Hp}{ρ:List Addr}{ev:Ev}{S:Sto}(k:Post K mg E S' ρ1 H1 o)(e0:Ext ρ1 H1 ρ H)(hS:StOk K mg ρ H S)(hE:EnvR K mg ρ H ev σ)(r:Rep K mg ρ H d x)(hl:zbb i body (d::ds) ev S=some (o,S')) :
   tC K mg body { E with nx:=zpd K mg ρ1 H1 i body o S' ds,ct:=zpd K mg ρ1 H1 i body o S' ds,bk:=E.nx } (σ.set i (some x)) H:=by
 obtain⟨⟨o1,S3⟩,q,hl⟩:=zv hl;refine⟨ρ,ev.set i (some d),S,o1,S3,hE.set r i,hS,q,?_⟩;cases o1 with
 |nx e=>exact fun σ' ρ' H' E' hS' hE'=>⟨ρ',e,S3,e0.trans E',hS',hE',hl⟩
 |ct e=>exact fun σ' ρ' H' E' hS' hE'=>⟨ρ',e,S3,e0.trans E',hS',hE',hl⟩
 |bk e=>cases hl;exact fun σ' ρ' H' E' hS' hE'=>k σ' ρ' H' (e0.trans E') hS' hE'
 |rt y=>cases hl;exact fun v ρ' H' E' hS' r'=>k v ρ' H' (e0.trans E') hS' r'
theorem zhp{σ:St}{H:Hp}(k:Post K mg E S' ρ1 H1 o)(h:zpd K mg ρ1 H1 i body o S' [] σ H):E.nx σ H:=by obtain⟨ρ,ev,S,e0,hS,hE,hl⟩:=h;cases hl;exact k σ ρ H e0 hS hE
end
theorem zve(i:Nat){l:Expr}{px:Pos}{sb:List Stmt}(hN:X.N.Nodup)(hl:FE X l f)(hb:FSs X sb body)(hp:PassesOwn (model X.prog X.w) X.A X.env X.xe)(hc:X.calm=true:=by rfl)(hi:X.N[i]? = some x:=by rfl)(hx:Loc X.env.scope x:=by first | exact Or.inl rfl | exact Or.inr rfl)
   (hf:X.fn x=true\/X.env.scope.names.lookup x=some .local:=by first | exact .inl rfl | exact .inr rfl | assumption) (hs:∀v,foldedSetIterable l X.env v=pure v:=by intro _;rfl) :
   FS X (.For (.Name x px) l sb [] pos) (zpt i f body) :=
 yc (zsf hp hc (zh7 hl) (zh8 hN hi hx hf) hb hs) fun σ H D h=>by
   obtain⟨ρ,ev,S,o,S',hE,hS,hf,k⟩:=h;obtain⟨⟨d,S1⟩,q1,hf⟩:=zv hf;cases d with
   | lst ds=>
     refine⟨ρ,ev,S,_,S1,hE,hS,q1,fun v ρ1 H1 E1 hS1 r1=>?_⟩;unfold Rep at r1;obtain⟨p,vs,rfl,t,r⟩:=r1;have k1:=k.ext E1;refine⟨p,rfl,⟨vs,t.sq⟩,zqx (K:=X.K) (a:=p) (xs:=vs) (fun j σ' H'=>zpd X.K X.mg ρ1 H1 i body o S' (ds.drop j) σ' H') ⟨ρ1,ev,S1,Ext.refl _ _,hS1,hE.mono E1,hf⟩ (fun j σ' H' _ ⟨ρ',ev',S2,e0,_⟩=>(t.mono e0).sq) ?_ ?_⟩
     · rintro j y σ' H' hj ⟨ρ',ev',S2,e0,hS2,hE2,hl2⟩;have hjl:j<ds.length:=by rw[r.length];exact(z42.mp hj).1
       have ed:ds.drop j=ds[j]::ds.drop (j+1):=z6v hjl;obtain⟨y',ey,ry⟩:=(r.mono e0).get (z4x hjl);rw[hj]at ey;cases ey;rw[ed]at hl2;exact zme k1 e0 hS2 hE2 ry hl2
     · intro σ' H' ha;rw[z81 (by rw[r.length];exact z4v _)]at ha;exact zhp k1 ha
   |_=>cases hf
theorem zp6{K mg}{ρ1:List Addr}{H1:Hp}{E:Ends}{S' S1:Sto}{o:Out}{i n:Nat}{lo:Int}{σ:St}{ev:Ev}(k:Post K mg E S' ρ1 H1 o)(hS1:StOk K mg ρ1 H1 S1)(hE:EnvR K mg ρ1 H1 ev σ)(hf:zbb i body (q8 lo n) ev S1=some (o,S')) :
   ∃W:Nat->Nat->St->Hp->Prop,(∃m,W 0 m σ H1)/\∀j m σ H,W j m σ H ->
     ((Itr lo n).stop j H/\E.nx σ H)\/((Itr lo n).go j H/\∃N:St->Hp->Prop,(∀σ' H',N σ' H'->∃m',m'<m/\W (j+1) m' σ' H')/\∀x H',(Itr lo n).yld j H x H'->zn7 i x σ H' fun σ2 H2=>tC K mg body { E with nx:=N,ct:=N,bk:=E.nx } σ2 H2):=by
 refine zoa (g:=zn7 i) (fun j σ' H'=>zpd K mg ρ1 H1 i body o S' ((q8 lo n).drop j) σ' H') ⟨ρ1,ev,S1,Ext.refl _ _,hS1,hE,hf⟩ ?_ ?_
 · rintro j σ' H' hj ⟨ρ',ev',S2,e0,hS2,hE2,hl2⟩;have hjl:j<(q8 lo n).length:=by unfold q8;simpa using hj
   have ed:(q8 lo n).drop j=(q8 lo n)[j]::(q8 lo n).drop (j+1):=z6v hjl;rw[ed]at hl2;refine zme k e0 hS2 hE2 ?_ hl2;have:(q8 lo n)[j]=D.int (lo+(j:Int)):=by simp[q8]
   rw[this];exact rfl
 · intro σ' H' ha;rw[z81 (by unfold q8;simp)]at ha;exact zhp k ha
theorem zii(i:Nat){l:Expr}{px p2 p3:Pos}{sb:List Stmt}(hN:X.N.Nodup)(hm:X.mg "range"=none)(hl:FE X l f)(hb:FSs X sb body)(hp:PassesOwn (model X.prog X.w) X.A X.env X.xe)(hg:Gl X "range":=by rfl)(hc:X.calm=true:=by rfl)(hi:X.N[i]? = some x:=by rfl)(hx:Loc X.env.scope x:=by first | exact Or.inl rfl | exact Or.inr rfl)
   (hf:X.fn x=true\/X.env.scope.names.lookup x=some .local:=by first | exact .inl rfl | exact .inr rfl | assumption) (hst:starEach [l] X.env=[(false,eval l X.env)]:=by exact zy rfl) (hs:∀v,foldedSetIterable (.Call (.Name "range" p2) [l] [] p3) X.env v=pure v:=by intro _;rfl) :
   FS X (.For (.Name x px) (.Call (.Name "range" p2) [l] [] p3) sb [] pos) (zky i f body) :=
 yc (zsf hp hc (zgt hg hm (zb hl zd hst) hst) (zh8 hN hi hx hf) hb hs) fun σ H D h=>by
   obtain⟨ρ,ev,S,o,S',hE,hS,hf,k⟩:=h;obtain⟨⟨d,S1⟩,q1,hf⟩:=zv hf;cases d with
   | int j=>
     dsimp only at hf;split at hf
     · rename_i hj;refine⟨ρ,ev,S,[.int j],S1,hE,hS,by simp only[aC,aN,q1,Option.bind_some],fun vs ρ1 H1 E1 hS1 r1=>?_⟩;unfold RepL at r1;obtain⟨v,r,rfl,r2,r3⟩:=r1;unfold RepL at r3;subst r3;exact⟨j,by rw[show v=.int j from r2],hj.1,hj.2,zp6 (k.ext E1) hS1 (hE.mono E1) hf⟩
     · cases hf
   |_=>cases hf
end
open PySem.Spec PyProof.Rows
structure FunD (K:zFr) (x qual:Str) (st:Stmt) (f:Addr) (fd:FuncData) (dV:Value):Prop where
 ex:∃(oc:Value) (od:Option Addr) (kV doc pm:Value) (an:Option Addr) (cdv ct:Value) (osl:Array (Option Value)),
   fd=PySem.W.fnOf x qual (zbj st) (jb st) (zh st) dV kV doc pm an cdv ct/\K.lookup f=some ⟨oc,od,.func fd,osl⟩/\PySem.W.codeIn K cdv qual=true
 kp:PySem.W.keepIn K (.ref f)=true
theorem zd8{N n c ds S r}(h:z5 N n c ds S=some r):ds.length=n:=by
 unfold z5 at h;split at h
 · rename_i hl;exact hl
 · cases h
theorem ziv{K mg}{c:C}{N:List Str}{n:Nat}{vs:List V}{H:Hp}{Q:VK}{E:XK}(h:spG K mg (z5 N.length n c) vs H Q E):tC K mg c { nx:=fun _ H'=>Q .non H',rt:=Q } (start N vs) H:=by
 obtain⟨ρ,ds,S,d,S',r,hS,hf,k⟩:=h;unfold z5 at hf;split at hf
 · split at hf
   · rename_i e S1 hc;cases hf;exact⟨ρ,_,S,_,_,EnvR.start r,hS,hc,fun σ' ρ' H' E' hS' _=>k .non ρ' H' E' hS' rfl⟩
   · rename_i e S1 hc;cases hf;exact⟨ρ,_,S,_,_,EnvR.start r,hS,hc,k⟩
   · cases hf
 · cases hf
theorem FunD.ok{P:Program}{w:World}{K:zFr}{mg:zMg}{base:Heap}{x qual:Str}{st:Stmt}{f:Addr}{fd:FuncData}{dV:Value}{N ps:List Str}{k:Nat}{c:C}(F:FunD K x qual st f fd dV)(S:FnScope N ps (zh st))
   (hbody:∀(cdv:Value) (A:Around) (outer:List Env) (s:Shared) (H:Hp) (E:XK),Room k (A.deeper (envOfC qual (zh st) s.heap.objs.size f cdv)) ->
     FSs (zbp CX0 P w K mg base N qual (zh st) f cdv A outer s H E).nox (jb st) c):FnOk P w K mg base CX0 (k+1) f fd ps (spG K mg (z5 N.length ps.length c)):=by
 obtain⟨oc,od,kV,doc,pm,an,cdv,ct,osl,rfl,lk,hcd⟩:=F.ex;refine zqy lk hcd S (fun vs H Q E h=>?_) fun A outer s H vs Q E hr hsp=>?_
 · obtain⟨ρ,ds,S,d,S',r,hS,hf,k⟩:=h;rw[<-r.length];exact zd8 hf
 · exact⟨_,(hbody cdv A outer s H E hr).nox,ziv hsp⟩
def zg8(cells:zLA):List (Str×NameKind)->zLA->zLA
 | [],acc=>acc
 | (n,k)::r,acc=>zg8 cells r (if k=.free then (match cells.lookup n with | some c=>(n,c)::acc | none=>acc)else acc)
theorem zc3{cells:zLA}:∀{names:List (Str×NameKind)}{acc:zLA},(∀x c,acc.lookup x=some c->cells.lookup x=some c)->∀x c,(zg8 cells names acc).lookup x=some c->cells.lookup x=some c
 | [],_,h=>h
 | (n,k)::r,acc,h=>by
   unfold zg8;refine zc3 (names:=r) ?_;intro x c;split
   · split
     · rename_i c' e;intro q;simp only[List.lookup]at q;split at q
       · rename_i hx;cases q;rw[z7q.mp hx];exact e
       · exact h x c q
     · exact h x c
   · exact h x c
theorem zkj{cells:zLA}{x:Str}:∀{names:List (Str×NameKind)}{acc:zLA},(∃c,acc.lookup x=some c)->∃c,(zg8 cells names acc).lookup x=some c
 | [],_,h=>h
 | (n,k)::r,acc,h=>by
   unfold zg8;refine zkj (names:=r) ?_;split
   · split
     · rename_i c' e;simp only[List.lookup];split
       · exact⟨_,rfl⟩
       · exact h
     · exact h
   · exact h
theorem zf5{cells:zLA}{x:Str}(hx:∃c,cells.lookup x=some c):∀{names:List (Str×NameKind)}{acc:zLA},(x,NameKind.free)∈names->∃c,(zg8 cells names acc).lookup x=some c
 | [],_,h=>by cases h
 | (n,k)::r,acc,h=>by
   unfold zg8;rcases z46.mp h with e | h
   · cases e;refine zkj ?_;obtain⟨c,hc⟩:=hx;rw[z5g rfl,hc];exact⟨c,by simp[List.lookup]⟩
   · exact zf5 hx h
theorem zb3{scope:Scope}{env:Env}(h:∀p∈scope.names,p.2=NameKind.free->∃c,env.cells.lookup p.1=some c):closureFor scope env=pure (zg8 env.cells scope.names []):=by
 unfold closureFor;generalize scope.names=names at h;have key:∀(names:List (Str×NameKind)) (acc:zLA),(∀p∈names,p.2=NameKind.free->∃c,env.cells.lookup p.1=some c) ->
     (forIn names acc fun(x:Str×NameKind) (cs:zLA)=>(do
       if(x.2==NameKind.free)=true then do
         let a <-cellOf env x.1
         pure (ForInStep.yield ((x.1,a)::cs))
       else pure (ForInStep.yield cs):Sem (ForInStep (zLA))))=pure (zg8 env.cells names acc):=by
   intro names
   induction names with
   |nil=>intro acc _;rfl
   | cons p r ih=>
     intro acc h;obtain⟨n,k⟩:=p;rw[z8a];unfold zg8;by_cases hk:k=.free
     · subst hk;obtain⟨c,hc⟩:=h (n,.free) z5c rfl;have hc':env.cells.lookup n=some c:=hc;simp only[beq_self_eq_true,z6s,cellOf,hc',pure_bind];exact ih _ fun q hq=>h q (z40 _ hq)
     · have hb:(k==NameKind.free)=false:=by simpa using hk
       simp only[hb,z47,z6b,pure_bind,z5n hk];exact ih _ fun q hq=>h q (z40 _ hq)
 have:=key names [] h
 first
   | (simp only[bind_pure];exact this)
   | (rw[show(fun(x:Str×NameKind) (cs:zLA)=>_)=_ from rfl];exact this)
   |exact this
def zf1(ev:Ev)(i:Nat):Option D:=match ev[i]? with
 |some o=>o
 |none=>none
def zgh(σ:L2.St)(i:Nat):Option V:=match σ[i]? with
 |some o=>o
 |none=>none
def jf(X:Cx)(N':List Str)(scope:Scope)(s₀:Shared)(H₀:Hp)(C:Addr)(ex:List Addr):Cx :=
 { X with N:=N',s₀:=s₀,H₀:=H₀,env:=compEnvC scope (zg8 X.env.cells scope.names []) C X.env,outer:=X.stack,ex:=ex,fn:=fun _=>false,pn:=[],xe:=fun _ _=>False }
section
variable {X:Cx}{pins:zAO}{σ:L2.St}{H:Hp}{s:Shared}{scope:Scope}{x:Str}{N':List Str}{fr:List Nat}
structure CompOk (X:Cx) (scope:Scope) (x:Str) (N':List Str) (fr:List Nat):Prop where
 nd:(x::N').Nodup
 hx:scope.names.lookup x=some .local
 kind:scope.kind=.function
 frn:fr.map (fun j=>X.N[j]?)=N'.map some
 frk:∀y∈N',X.env.kindOf y=some .cell/\(relabel scope X.env).names.lookup y=some .cell
 chk:∀p∈scope.names,p.2≠.cell/\(p.2=.free->X.env.kindOf p.1=some .cell)/\(p.2=.local->scope.names.lookup p.1=some .local)
theorem xg(nd:(x::N').Nodup)(hx:scope.names.lookup x=some .local)(kind:scope.kind=.function)(frn:fr.map (fun j=>X.N[j]?)=N'.map some)
   (frk:(N'.all fun y=>X.env.kindOf y==some NameKind.cell&&(relabel scope X.env).names.lookup y==some NameKind.cell)=true)
   (chk:(scope.names.all fun p=>p.2 != NameKind.cell&&(p.2 != NameKind.free||X.env.kindOf p.1==some NameKind.cell)&&(p.2 != NameKind.local||scope.names.lookup p.1==some NameKind.local))=true):CompOk X scope x N' fr:=by
 refine⟨nd,hx,kind,frn,fun y hy=>?_,fun p hp=>?_⟩
 · have:=z55.mp frk y hy;simpa using this
 · have:=z55.mp chk p hp;simp only[z50,Bool.or_eq_true,bne_iff_ne,z7q]at this;exact⟨this.1.1,fun e=>this.1.2.resolve_left (fun z=>z e),fun e=>this.2.resolve_left (fun z=>z e)⟩
theorem zes{α:Type}{x:Str}{k:α}:∀{l:List (Str×α)},l.lookup x=some k->(x,k)∈l
 | [],h=>by cases h
 | (n,a)::r,h=>by
   simp only[List.lookup]at h;split at h
   · rename_i e;cases h;rw[z7q.mp e];exact z5c
   · exact z40 _ (zes h)
theorem CompOk.free(c:CompOk X scope x N' fr){y:Str}(h:(relabel scope X.env).names.lookup y=some .cell\/(relabel scope X.env).names.lookup y=some .free):(y,NameKind.free)∈scope.names:=by
 have go:∀k,(k=NameKind.cell\/k=.free)->(relabel scope X.env).names.lookup y=some k->(y,NameKind.free)∈scope.names:=by
   intro k hk e;have m:=zes e;unfold relabel at m;obtain⟨⟨n,k0⟩,hm,e2⟩:=z68.mp m;dsimp only at e2;split at e2
   · rename_i hc;cases e2;have:k0=.free:=by rw[z50,z50]at hc;simpa using hc.1.1
     subst this;exact hm
   · cases e2;rcases hk with rfl | rfl
     · exact absurd rfl (c.chk _ hm).1
     · exact hm
 rcases h with h | h
 · exact go _ (.inl rfl) h
 · exact go _ (.inr rfl) h
theorem CompOk.start(c:CompOk X scope x N' fr)(I:Inv X pins σ H s){fp:List Addr}(hf:∀b∈fp,zl0 X pins H b)(hfl:∀b∈fp,b<s.heap.objs.size){C:Addr}(hC:s.heap.objs.size<=C){h1:Heap}{m:zMg}{t':Nat}(hk:∀b o,s.heap.get? b=some o->h1.get? b=some o)(hn:h1.Ns C m) :
   Inv (jf X (x::N') scope s H C fp) [] (none::fr.map (zgh σ)) H { s with heap:=h1,toks:=t' }:=by
 have sub:∀y a,(zg8 X.env.cells scope.names []).lookup y=some a->X.env.cells.lookup y=some a:=zc3 (fun _ _ h=>by cases h);have hfs:∀b∈frs X.stack,H b=none:=I.stkFree;have cellt:∀y a,X.env.cells.lookup y=some a->a<s.heap.objs.size:=fun y a e=>by obtain⟨v,q⟩:=I.cell y a e;exact q.lt
 refine⟨⟨I.ok.mod,c.kind,I.ok.glob,I.ok.blt,hC,fun y z a h1 h2=>I.ok.inj y z a (sub _ _ h1) (sub _ _ h2),fun y hy=>?_,fun y a h=>?_,I.ok.hd,I.ok.frames,.inl rfl,fun b hb=>⟨z5h (z4w (hfl b hb) hC),fun y a e=>(hf b hb).2.2.2.2.1 y a (sub _ _ e)⟩,I.bs,z5j I.ok.bsz I.sz,fun b o e hb=>?_,fun b hb z=>?_,I.stack,hfs⟩,
   rfl,I.bare,Un.kept hk,⟨m,hn,fun i y v e1 e2 e3=>?_⟩,fun y a e=>?_,I.hok.fresh hC,fun y a e=>I.freeC y a (sub _ _ e),fun p hp=>absurd hp (by simp[jf]),I.hok.kept hk,?_⟩
 · exact zf5 (I.ok.has y (.inl ((c.chk _ (c.free hy)).2.1 rfl))) (c.free hy)
 · cases h
 · have:=(I.bs b o e).1;have z:=hf b hb;rcases z.2.2.2.1 with z | z
   · exact I.ok.noex b o e z
   · have:=(I.ok.bs b o e).1;exact absurd (z4w (z5f this) z) (z61 _)
 · rcases z46.mp (I.stkSub b z)with e | e
   · exact(hf b hb).2.1 e
   · exact(hf b hb).2.2.1 e
 · cases i with
   |zero=>simp at e2
   | succ i=>
     have e1:N'[i]? = some y:=by simpa [jf] using e1
     have e2:(fr.map (zgh σ))[i]? = some (some v):=by simpa using e2
     rw[z54]at e2;cases ej:fr[i]? with
     |none=>rw[ej]at e2;cases e2
     | some j=>
       rw[ej]at e2;have e2:zgh σ j=some v:=by simpa using e2
       have hv:σ[j]? = some (some v):=by
         unfold zgh at e2;split at e2
         · rename_i o ho;rw[ho,e2]
         · cases e2
       have hN:X.N[j]? = some y:=by have q:=z64 (fun l=>l[i]?) c.frn;simp only[z54,ej,e1,Option.map_some,Option.some.injEq]at q;exact q
       obtain⟨k1,k2⟩:=c.frk y (z5t e1);obtain⟨mm,_,hl⟩:=I.loc;obtain⟨u,r,l⟩:=hl j y v hN hv (.inr (.inl k1));refine⟨u,r,?_⟩;rcases l with⟨k,_⟩ | ⟨_,a,ha,hcl⟩
       · rw[k1]at k;cases k
       · refine .inr ⟨.inl k2,a,?_,?_⟩
         · obtain⟨a',ha'⟩:=zf5 (cells:=X.env.cells) (names:=scope.names) (acc:=[]) ⟨a,ha⟩ (c.free (.inl k2));have:=sub _ _ ha';rw[ha]at this;cases this;exact ha'
         · obtain⟨o,ho,hd⟩:=hcl;exact⟨o,hk _ _ ho,hd⟩
 · obtain⟨v,o,ho,hd⟩:=I.cell y a (sub _ _ e);exact⟨v,o,hk _ _ ho,hd⟩
 · have:=z64 List.length c.frn;simp at this;simp[jf,this]
theorem Inv.track{p:Addr}{ys:List V}{its:List Value}{n:Nat}(I:Inv X pins σ H s)(hn:H p=none)(ho:s.heap.get? p=some { cls:=.type "list",data:=.seq its.toArray n })(r:Vals ys its)(hz:ys.length<=sizeLine)
   (h1:p∈X.ex\/X.s₀.heap.objs.size<=p) (hL:p≠X.env.locals) (h2:∀x c,X.env.cells.lookup x=some c->c≠p) (h3:∀q∈X.pn++pins,q.1≠p):Inv X pins σ (upd H p (.lst ys)) s:=by
 refine I.step (g':=s.gens) (d':=s.drawn) (h':=s.heap) (t':=s.toks) (ch:=[p]) (fun b hb=>?_) (fun b o _ _ _ e _=>e) (fun b o _ _ _ e _=>⟨o.slots,e⟩) (fun b o hc e n=>?_) (fun b o _ e=>⟨o,e⟩) (fun b xs e=>?_) (fun b o u e=>?_) (fun b ps e=>⟨#[],?_⟩) (fun _ hm=>hm) (fun b u e=>?_) I.bare
 · rw[z43.mp hb];exact⟨h1,hL,h2,h3⟩
 · rw[z0 (fun z=>hc (by simp[z]))];exact n
 · rw[z0 (qv e hn)];exact e
 · rw[z0 (qv e hn)];exact e
 · rw[z0 (qv e hn),e];simp
 · by_cases hb:b=p
   · subst hb;rw[qg]at e;cases e;exact⟨hz,its,n,r,ho⟩
   · rw[z0 hb]at e;exact(I.hok b u e).stay (fun _ _ _ q=>q) (fun c q=>by rw[z0 (qv q hn)];exact q) fun c xs q=>by rw[z0 (qv q hn)];exact q
theorem zh3{P:Program}{w:World}{H:Hp}{h h':Heap}{c:Addr}(hok:HOk P w H h)(hs:Heap.SameBut c h h')(hn:H c=none):HOk P w H h':=fun b ob e=>by
 refine(hok b ob e).stay (fun d o hd q=>(hs.2 d ?_).trans q) (fun _ q=>q) fun _ _ q=>q;rintro rfl;rcases hd with rfl | hd
 · rw[hn]at e;cases e
 · rw[hn]at hd;cases hd
end
def IB(i:Int):Prop:=i.natAbs<2^4096
instance (i:Int):Decidable (IB i):=inferInstanceAs (Decidable (_<_))
def ql:D->D->Option D
 | .int i,.int j=>some (.int (i+j))
 | .str x,.str y=>if x.length+y.length<=sizeLine then some (.str (x++y))else none
 | .lst a,.lst b=>if a.length+b.length<=sizeLine then some (.lst (a++b))else none
 | .tup a,.tup b=>if a.length+b.length<=sizeLine then some (.tup (a++b))else none
 |_,_=>none
def opI(g:Int->Int->Option Int):D->D->Option D
 | .int i,.int j=>(g i j).map D.int
 |_,_=>none
def zqk(g:Int->Int->Bool):D->D->Option D
 | .int i,.int j=>some (.bl (g i j))
 |_,_=>none
def z0m(i j:Int):Option Int:=if(-(2^64)<i/\i<2^64)\/(-(2^64)<j/\j<2^64)\/(IB i/\IB j)then some (i*j)else none
def z2n(i j:Int):Option Int:=if 0<j/\j<1073741824 then some (i/j)else none
def z1x(i j:Int):Option Int:=if 0<j then some (i%j)else none
def zsg(i j:Int):Option Int:=if 0<=j/\j<=1000000/\i.natAbs<2^64 then some (i^j.toNat)else none
def zar:D->D->Option D:=opI fun i j=>some (i-j)
def zah:D->D->Option D:=opI z0m
def zdb:D->D->Option D:=opI z2n
def jq:D->D->Option D:=opI z1x
def zda:D->D->Option D:=opI zsg
def zhq:D->D->Option D:=zqk fun i j=>decide (i<j)
def zer:D->D->Option D:=zqk fun i j=>decide (i<=j)
def zjo:D->D->Option D:=zqk fun i j=>decide (j<i)
def zsl:D->D->Option D:=zqk fun i j=>decide (j<=i)
def znz:D->Bool
 | .non=>true
 |_=>false
def zgi:D->D->Option D
 |d,.non=>some (.bl (znz d))
 | .bl a,.bl b=>some (.bl (a==b))
 |_,_=>none
def kg:D->D->Option D
 |d,.non=>some (.bl (!znz d))
 | .bl a,.bl b=>some (.bl (a != b))
 |_,_=>none
def z9(S:Sto):D->D->Option D
 | .lst ds,.int i=>atI ds i
 | .tup ds,.int i=>atI ds i
 | .str z,.int i=>if z.length<=sizeLine then (atI z.cps.toList i).map fun c=>.str ⟨#[c]⟩else none
 | .obj a,.int i=>(match S[a]? with
   |some (.lst ds)=>atI ds i
   |_=>none)
 |_,_=>none
section
variable {X:Cx}{K:zFr}{mg:zMg}
theorem Rep.refI{ρ H i v}(h:Rep K mg ρ H (.int i) v):v=.int i:=h
theorem Rep.refS{ρ H i v}(h:Rep K mg ρ H (.str i) v):v=.str i:=h
theorem Rep.refT{ρ H ds v}(h:Rep K mg ρ H (.tup ds) v):∃p vs,v=.ref p/\TupAt K ρ H p vs/\RepL K mg ρ H ds vs:=by unfold Rep at h;exact h
theorem Rep.refL{ρ H ds v}(h:Rep K mg ρ H (.lst ds) v):∃p vs,v=.ref p/\LstAt K ρ H p vs/\RepL K mg ρ H ds vs:=by unfold Rep at h;exact h
def zxc(K:zFr):R2:=fun x y H Q=>∃l b xs zs,x=.ref l/\y=.ref b/\SqL K H l xs/\SqL K H b zs/\xs.length+zs.length<=sizeLine/\∀p,H p=none->Q (.ref p) (upd H p (.lst (xs++zs)))
theorem op_catL:OpR X (binaryOp .Add) (zxc X.K):=by
 intro pins s σ H x y v u Q I rx ry h;obtain⟨l,b,xs,zs,rfl,rfl,hH,hB,hz,q⟩:=h;cases rx;cases ry;obtain⟨its,r,pl,_⟩:=I.list hH;obtain⟨its2,r2,pl2,_⟩:=I.list hB;obtain⟨⟨cls,dd,data,sl⟩,ho,hc,n,hd⟩:=pl.isList;obtain⟨⟨cls2,dd2,data2,sl2⟩,ho2,hc2,n2,hd2⟩:=pl2.isList;simp only at hc hd hc2 hd2;subst hc hd hc2 hd2;have e:its.toArray++its2.toArray=(its++its2).toArray:=by simp
 have h1:=r.length;have h2:=r2.length;refine qab ⟨_,ho,rfl⟩ ⟨_,ho2,rfl⟩ noFill_list_add seq_list_add PySem.F.slot_list_add PySem.F.entry_list_add (PySem.F.args_list_add_2 _ _) (list_addW l b its.toArray its2.toArray n n2 dd dd2 sl sl2 (by simp only[z45];omega)) ⟨ho,ho2,?_⟩;rw[e];exact⟨.ref _,_,I.lnew (t':=s.toks) (r.append r2) (by rw[z4t];omega),rfl,q _ I.fresh⟩
def zsb(K:zFr):R2:=fun x y H Q=>∃a b ys,x=.ref a/\y=.ref b/\SqT K H a []/\SqT K H b ys/\Q (.ref b) H
theorem zqj:OpR X (binaryOp .Add) (zsb X.K):=by
 intro pins s σ H x y v u Q I rx ry h;obtain⟨a,b,ys,rfl,rfl,ha,hb,q⟩:=h;cases rx;cases ry;obtain⟨its,r1,p1,_⟩:=I.tuple ha;obtain⟨its2,r2,p2,_⟩:=I.tuple hb;cases r1;obtain⟨⟨cls,dd,data,sl⟩,ho,hc,n,hd⟩:=id p1;obtain⟨⟨cls2,dd2,data2,sl2⟩,ho2,hc2,n2,hd2⟩:=id p2;simp only at hc hd hc2 hd2;subst hc hd hc2 hd2;exact qab ⟨_,ho,rfl⟩ ⟨_,ho2,rfl⟩ noFill_tuple_add seq_tuple_add z8z z8u (z8q _ _)
   (tuple_addW0 a b _ _ n n2 dd dd2 sl sl2 rfl) ⟨ho,ho2,⟨.ref b,H,I,rfl,q⟩⟩
theorem zt4:ze7 K mg (fun x y H Q=>rI0 (fun i j=>.int (i+j)) x y H Q\/(∃i j,x=.str i/\y=.str j/\i.length+j.length<=sizeLine/\Q (.str (i++j)) H)\/zxc K x y H Q\/zxb K x y H Q\/zsb K x y H Q) (fun _=>ql):=by
 intro ρ H S x y dx dy d Q hS rx ry e k;replace e:ql dx dy=some d:=e;unfold ql at e;split at e
 · rename_i i j;cases e;rw[rx.refI,ry.refI];exact .inl ⟨i,j,rfl,rfl,k _ H (Ext.refl _ _) hS rfl⟩
 · rename_i i j;split at e
   · rename_i hl;cases e;rw[rx.refS,ry.refS];exact .inr (.inl ⟨i,j,rfl,rfl,hl,k _ H (Ext.refl _ _) hS rfl⟩)
   · cases e
 · rename_i a b;split at e
   · rename_i hl;cases e;obtain⟨p,vs,rfl,t1,r1⟩:=rx.refL;obtain⟨q,us,rfl,t2,r2⟩:=ry.refL;refine .inr (.inr (.inl ⟨p,q,vs,us,rfl,rfl,t1.sq,t2.sq,by rw[<-r1.length,<-r2.length];exact hl,fun z hz=>?_⟩));exact k _ _ (jl hS _ hz) (hS.new _ hz) (Rep.lst (s:=hS) hz (r1.append r2))
   · cases e
 · rename_i a b;split at e
   · rename_i hl;cases e;obtain⟨p,vs,rfl,t1,r1⟩:=rx.refT;obtain⟨q,us,rfl,t2,r2⟩:=ry.refT;cases a with
     | nil=>
       have:=r1.length;cases vs with
       |nil=>exact .inr (.inr (.inr (.inr ⟨p,q,us,rfl,rfl,t1.sq,t2.sq,k _ H (Ext.refl _ _) hS ry⟩)))
       |cons _ _=>simp at this
     | cons a0 a=>
       refine .inr (.inr (.inr (.inl ⟨p,q,vs,us,rfl,rfl,t1.sq,t2.sq,?_,by rw[<-r1.length,<-r2.length];exact hl,fun z=>?_,fun z w hw=>?_⟩)))
       · intro z;have:=r1.length;subst z;simp at this
       · have:=r2.length;subst z;cases b with
         |nil=>rw[z5q]at k;exact k _ H (Ext.refl _ _) hS rx
         |cons _ _=>simp at this
       · exact k _ _ (jl hS _ hw) (hS.new _ hw) (Rep.tup (s:=hS) hw (r1.append r2))
   · cases e
 · cases e
theorem qy{a b:Expr}{f g:E}{pos:Pos}(ha:FE X a f)(hb:FE X b g):FE X (.BinOp a .Add b pos) (e2 ql f g) :=
 ze3 (op_add.or (op_add_str.or (op_catL.or (op_catT.or zqj)))) zt4 ha hb
theorem zpq{C:Int->Int->Prop}{gV:Int->Int->Int}{g:Int->Int->Option Int}(h:∀i j z,g i j=some z->C i j/\z=gV i j):ze7 K mg (rI C fun i j=>.int (gV i j)) (fun _=>opI g):=by
 intro ρ H S x y dx dy d Q hS rx ry e k;replace e:opI g dx dy=some d:=e;unfold opI at e;split at e
 · rename_i i j;obtain⟨z,e1,e⟩:=yz e;cases e;obtain⟨hc,rfl⟩:=h i j z e1;rw[rx.refI,ry.refI];exact⟨i,j,rfl,rfl,hc,k _ H (Ext.refl _ _) hS rfl⟩
 · cases e
theorem zws{gV:Int->Int->Int}:ze7 K mg (rI0 fun i j=>.int (gV i j)) (fun _=>opI fun i j=>some (gV i j)):=by
 intro ρ H S x y dx dy d Q hS rx ry e k;replace e:opI _ dx dy=some d:=e;unfold opI at e;split at e
 · rename_i i j;cases e;rw[rx.refI,ry.refI];exact⟨i,j,rfl,rfl,k _ H (Ext.refl _ _) hS rfl⟩
 · cases e
theorem zao{g:Int->Int->Bool}:ze7 K mg (rI0 fun i j=>.bl (g i j)) (fun _=>zqk g):=by
 intro ρ H S x y dx dy d Q hS rx ry e k;replace e:zqk g dx dy=some d:=e;unfold zqk at e;split at e
 · rename_i i j;cases e;rw[rx.refI,ry.refI];exact⟨i,j,rfl,rfl,k _ H (Ext.refl _ _) hS rfl⟩
 · cases e
variable {a b:Expr}{f g:E}{pos:Pos}
theorem zaf(ha:FE X a f)(hb:FE X b g):FE X (.BinOp a .Sub b pos) (e2 zar f g):=ze3 zxy zws ha hb
theorem zo8{i:Int}(h:IB i):Builtin.Int.intBits i<=2^20:=by
 unfold IB at h;unfold Builtin.Int.intBits;have:i.natAbs.log2<4096:=by
   by_cases h0:i.natAbs=0
   · rw[h0];decide
   · exact(Nat.log2_lt h0).mpr h
 split<;>omega
theorem zur:OpR X (binaryOp .Mult) (rI (fun i j=>CMul i j\/(IB i/\IB j)) fun i j=>.int (i*j)) :=
 L2.opI fun i j _ _ _ _ _ hc q=>mul_int q (by
   rcases hc with hc | ⟨h1,h2⟩
   · exact hc.ok
   · exact IntMulOk.of_bits (zo8 h1) (zo8 h2))
theorem zcm(ha:FE X a f)(hb:FE X b g):FE X (.BinOp a .Mult b pos) (e2 zah f g):=ze3 zur (zpq fun i j z e=>by
 unfold z0m at e;split at e
 · rename_i h;cases e;refine⟨?_,rfl⟩;rcases h with h | h | h
   · exact .inl (.inl h)
   · exact .inl (.inr h)
   · exact .inr h
 · cases e) ha hb
theorem ze2(ha:FE X a f)(hb:FE X b g):FE X (.BinOp a .FloorDiv b pos) (e2 zdb f g):=ze3 zus (zpq fun i j z e=>by
 unfold z2n at e;split at e
 · rename_i h;cases e;exact⟨h,rfl⟩
 · cases e) ha hb
theorem jx(ha:FE X a f)(hb:FE X b g):FE X (.BinOp a .Mod b pos) (e2 jq f g):=ze3 zx0 (zpq fun i j z e=>by
 unfold z1x at e;split at e
 · rename_i h;cases e;exact⟨h,rfl⟩
 · cases e) ha hb
theorem zj5(ha:FE X a f)(hb:FE X b g):FE X (.BinOp a .Pow b pos) (e2 zda f g):=ze3 zxz (zpq fun i j z e=>by
 unfold zsg at e;split at e
 · rename_i h;cases e;exact⟨h,rfl⟩
 · cases e) ha hb
theorem z2g(ha:FE X a f)(hb:FE X b g)(hm:behindInMarks .Lt b=false:=by exact kr _):FE X (.Compare a [.Lt] [b] pos) (e2 zhq f g):=zg2 zqi zao ha hb hm
theorem z2h(ha:FE X a f)(hb:FE X b g)(hm:behindInMarks .LtE b=false:=by exact kr _):FE X (.Compare a [.LtE] [b] pos) (e2 zer f g):=zg2 zk5 zao ha hb hm
theorem zq6(ha:FE X a f)(hb:FE X b g)(hm:behindInMarks .Lt b=false:=by exact kr _):FB X (.Compare a [.Lt] [b] pos) (bE (e2 zhq f g)):=zbz zqi zao ha hb hm
theorem z2k(ha:FE X a f)(hb:FE X b g)(hm:behindInMarks .LtE b=false:=by exact kr _):FB X (.Compare a [.LtE] [b] pos) (bE (e2 zer f g)):=zbz zk5 zao ha hb hm
theorem zlj(ha:FE X a f)(hb:FE X b g)(hm:behindInMarks .Gt b=false:=by exact kr _):FB X (.Compare a [.Gt] [b] pos) (bE (e2 zjo f g)):=zbz z1u zao ha hb hm
theorem zzl(ha:FE X a f)(hb:FE X b g)(hm:behindInMarks .GtE b=false:=by exact kr _):FB X (.Compare a [.GtE] [b] pos) (bE (e2 zsl f g)):=zbz z1v zao ha hb hm
theorem zj2{ρ H d v}(h:Rep K mg ρ H d v):znz d=decide (v=.non):=by
 cases d with
 |non=>rw[show v=.non from h];rfl
 |bl b=>rw[show v=.bl b from h];rfl
 |int b=>rw[show v=.int b from h];rfl
 |str b=>rw[show v=.str b from h];rfl
 |fn x=>unfold Rep at h;obtain⟨p,rfl,_⟩:=h;rfl
 |ty b=>rw[show v=.ty b from h];rfl
 |tup x=>obtain⟨p,_,rfl,_⟩:=h.refT;rfl
 |lst x=>obtain⟨p,_,rfl,_⟩:=h.refL;rfl
 |obj x=>unfold Rep at h;obtain⟨p,rfl,_⟩:=h;rfl
 |lam x=>unfold Rep at h;obtain⟨p,rfl,_⟩:=h;rfl
 |clo x y=>unfold Rep at h;obtain⟨p,_,rfl,_⟩:=h;rfl
theorem zx2:OpR X (compareOp .Is) (fun x y H Q=>∃i j,x=.bl i/\y=.bl j/\Q (.bl (i==j)) H):=by intro pins s σ H x y v u Q I rx ry h;obtain⟨i,j,rfl,rfl,q⟩:=h;cases rx;cases ry;exact is_bool ⟨.bl _,H,I,rfl,q⟩
theorem znj:OpR X (compareOp .IsNot) (fun x y H Q=>∃i j,x=.bl i/\y=.bl j/\Q (.bl (i != j)) H):=by intro pins s σ H x y v u Q I rx ry h;obtain⟨i,j,rfl,rfl,q⟩:=h;cases rx;cases ry;exact isnot_bool ⟨.bl _,H,I,rfl,q⟩
theorem zwr:ze7 K mg (fun x y H Q=>(y=.non/\Q (.bl (decide (x=.non))) H)\/(∃i j,x=.bl i/\y=.bl j/\Q (.bl (i==j)) H)) (fun _=>zgi):=by
 intro ρ H S x y dx dy d Q hS rx ry e k;replace e:zgi dx dy=some d:=e;unfold zgi at e;split at e
 · cases e;rw[zj2 rx]at k;exact .inl ⟨ry,k _ H (Ext.refl _ _) hS rfl⟩
 · rename_i i j _;cases e;exact .inr ⟨_,_,rx,ry,k _ H (Ext.refl _ _) hS rfl⟩
 · cases e
theorem zmq:ze7 K mg (fun x y H Q=>(y=.non/\Q (.bl (!decide (x=.non))) H)\/(∃i j,x=.bl i/\y=.bl j/\Q (.bl (i != j)) H)) (fun _=>kg):=by
 intro ρ H S x y dx dy d Q hS rx ry e k;replace e:kg dx dy=some d:=e;unfold kg at e;split at e
 · cases e;rw[zj2 rx]at k;exact .inl ⟨ry,k _ H (Ext.refl _ _) hS rfl⟩
 · rename_i i j _;cases e;exact .inr ⟨_,_,rx,ry,k _ H (Ext.refl _ _) hS rfl⟩
 · cases e
theorem zeg(ha:FE X a f)(hb:FE X b g)(hm:behindInMarks .Is b=false:=by exact kr _):FB X (.Compare a [.Is] [b] pos) (bE (e2 zgi f g)):=zbz (op_isN.or zx2) zwr ha hb hm
theorem zc0(ha:FE X a f)(hb:FE X b g)(hm:behindInMarks .IsNot b=false:=by exact kr _):FB X (.Compare a [.IsNot] [b] pos) (bE (e2 kg f g)):=zbz (op_notN.or znj) zmq ha hb hm
theorem ziz{ρ H ds vs i d}(r:RepL K mg ρ H ds vs)(h:atI ds i=some d):∃v,atI vs i=some v/\Rep K mg ρ H d v:=by unfold atI at h ⊢;rw[<-r.length];obtain⟨j,h1,h2⟩:=zv h;rw[h1];exact r.get h2
theorem zwq:ze7 K mg (rIx K) z9:=by
 intro ρ H S x y dx dy d Q hS rx ry e k;unfold z9 at e;split at e
 · rename_i ds i;obtain⟨p,vs,rfl,t,r⟩:=rx.refL;obtain⟨v,h1,h2⟩:=ziz r e;exact .inl ⟨p,vs,i,v,rfl,ry.refI,t.sq,h1,k _ H (Ext.refl _ _) hS h2⟩
 · rename_i ds i;obtain⟨p,vs,rfl,t,r⟩:=rx.refT;obtain⟨v,h1,h2⟩:=ziz r e;exact .inr (.inl ⟨p,vs,i,v,rfl,ry.refI,t.sq,h1,k _ H (Ext.refl _ _) hS h2⟩)
 · rename_i z i;split at e
   · rename_i hz;obtain⟨c,h1,e⟩:=yz e;cases e;exact .inr (.inr ⟨z,i,c,rx.refS,ry.refI,hz,h1,k _ H (Ext.refl _ _) hS rfl⟩)
   · cases e
 · rename_i o i;split at e
   · rename_i ds hd;unfold Rep at rx;obtain⟨p,rfl,hp⟩:=rx;obtain⟨vs,h1,r⟩:=hS.ob o _ p hd hp;obtain⟨v,h3,h2⟩:=ziz r e;exact .inl ⟨p,vs,i,v,rfl,ry.refI,SqL.of h1,h3,k _ H (Ext.refl _ _) hS h2⟩
   · cases e
 · cases e
theorem zu(ha:FE X a f)(hb:FE X b g)(hs:zpc b:=by exact fun _ _=>rfl):FE X (.Subscript a b pos) (e2s z9 f g):=qz (z1p zyu ha hb hs) fun _ _ _ h=>t2 zwq h
end
def eqL(f:D->D->Option Bool):List D->List D->Option Bool
 |x::xs,y::ys=>(f x y).bind fun c=>(eqL f xs ys).map fun r=>c&&r
 | [],[]=>some true
 |_,_=>some false
def zfy:D->Option V
 | .non=>some .non
 | .bl b=>some (.bl b)
 | .int i=>some (.int i)
 | .str x=>some (.str x)
 |_=>none
def eqF(a b:D):Option Bool:=match zfy a,zfy b with
 |some x,some y=>some (eqV x y)
 |_,_=>none
def zny:D->Bool
 | .tup _=>true
 | .lst _=>true
 |_=>false
def eqN:Nat->D->D->Option Bool
 |0,a,b=>eqF a b
 | n+1,a,b=>match a,b with
   | .tup xs,.tup ys=>eqL (eqN n) xs ys
   | .lst xs,.lst ys=>if xs.length=ys.length then eqL (eqN n) xs ys else some false
   | .tup _,.lst _=>some false
   | .lst _,.tup _=>some false
   | a,b=>if zny a=true then (if(zfy b).isSome=true then some false else none)
     else if zny b=true then (if(zfy a).isSome=true then some false else none)
     else eqF a b
theorem zc2{a b:D}{k:Bool}(h:eqF a b=some k):∃x y,zfy a=some x/\zfy b=some y/\k=eqV x y:=by
 unfold eqF at h;split at h
 · rename_i x y e1 e2;exact⟨x,y,e1,e2,(z53 h).symm⟩
 · cases h
section
variable {X:Cx}{pins:zAO}{σ:L2.St}{H:Hp}{s:Shared}{ρ:List Addr}{mg:zMg}
theorem jy{K}{d:D}{x v:V}(e:zfy d=some x)(r:Rep K mg ρ H d v):v=x/\zij x=true:=by
 cases d with
 |non=>cases e;exact⟨r,rfl⟩
 |bl b=>cases e;exact⟨r,rfl⟩
 |int i=>cases e;exact⟨r,rfl⟩
 |str i=>cases e;exact⟨r,rfl⟩
 |_=>cases e
theorem zos{f:D->D->Option Bool}:∀{xs ys:List D}{k:Bool},eqL f xs ys=some k->xs.length≠ys.length->k=false
 | [],[],_,_,h=>absurd rfl h
 | [],_::_,_,h,_=>by cases h;rfl
 |_::_,[],_,h,_=>by cases h;rfl
 | x::xs,y::ys,k,h,n=>by obtain⟨c,_,h⟩:=zv h;obtain⟨r,h2,h⟩:=yz h;have:=zos h2 (fun z=>n (by simp[z]));subst this h;simp
theorem zsy{f:D->D->Option Bool}:∀{xs ys:List D}{k:Bool},eqL f xs ys=some k->∀(j:Nat) (x y:D),xs[j]? = some x->ys[j]? = some y->∃c,f x y=some c
 | x::xs,y::ys,k,h,0,_,_,e1,e2=>by obtain⟨c,h1,h⟩:=zv h;simp at e1 e2;subst e1 e2;exact⟨c,h1⟩
 | x::xs,y::ys,k,h,j+1,_,_,e1,e2=>by obtain⟨c,h1,h⟩:=zv h;obtain⟨r,h2,h⟩:=yz h;exact zsy h2 j _ _ (by simpa using e1) (by simpa using e2)
 | [],_,_,_,_,_,_,e1,_=>by simp at e1
 |_::_,[],_,_,_,_,_,_,e2=>by simp at e2
def zlz(f:D->D->Option Bool)(xs ys:List D)(j:Nat):Bool:=match xs[j]?,ys[j]? with
 |some x,some y=>(f x y).getD false
 |_,_=>false
theorem zik{f:D->D->Option Bool}:∀{xs ys:List D}{k:Bool},eqL f xs ys=some k->xs.length=ys.length->k=(List.range xs.length).all (zlz f xs ys)
 | [],[],_,h,_=>by cases h;rfl
 | x::xs,y::ys,k,h,e=>by
   obtain⟨c,h1,h⟩:=zv h;obtain⟨r,h2,h⟩:=yz h;subst h;have ih:=zik h2 (by simpa using e);rw[List.length_cons,List.range_succ_eq_map,List.all_cons,List.all_map];have e0:zlz f (x::xs) (y::ys) 0=c:=by simp[zlz,h1]
   have e1:((zlz f (x::xs) (y::ys))∘Nat.succ)=zlz f xs ys:=by funext j;simp[zlz]
   rw[e0,e1,<-ih]
 | [],_::_,_,_,e=>by simp at e
 |_::_,[],_,_,e=>by simp at e
theorem zq8{f:D->D->Option Bool}{xs ys:List D}{k:Bool}(h:eqL f xs ys=some k):k=((List.range (min xs.length ys.length)).all (zlz f xs ys)&&xs.length==ys.length):=by
 by_cases e:xs.length=ys.length
 · rw[zik h e,e];simp
 · rw[zos h e];have:(xs.length==ys.length)=false:=by simpa using e
   rw[this];simp
theorem zvm:∀(n:Nat) {d1 d2:D}{v:V}{k:Bool},Inv X pins σ H s->eqN n d1 d2=some k->Rep X.K mg ρ H d1 v->Rep X.K mg ρ H d2 v->k=true:=by
 intro n
 induction n with
 | zero=>
   intro d1 d2 v k I h r1 r2;obtain⟨x,y,e1,e2,rfl⟩:=zc2 h;obtain⟨rfl,f1⟩:=jy e1 r1;obtain⟨rfl,f2⟩:=jy e2 r2;cases v<;>first | (cases f1;done) | (simp[eqV];done)
 | succ n ih=>
   intro d1 d2 v k I h r1 r2;have lst:∀{xs ys:List D}{vs:List V}{k:Bool},eqL (eqN n) xs ys=some k->RepL X.K mg ρ H xs vs->RepL X.K mg ρ H ys vs->k=true:=by
     intro xs
     induction xs with
     | nil=>
       intro ys vs k h q1 q2;have l1:=q1.length;have l2:=q2.length;cases ys with
       |nil=>cases h;rfl
       |cons _ _=>rw[<-l1]at l2;simp at l2
     | cons x xs ihx=>
       intro ys vs k h q1 q2;cases ys with
       | nil=>
         have l1:=q1.length;have l2:=q2.length;rw[<-l2]at l1;simp at l1
       | cons y ys=>
         obtain⟨c,h1,h⟩:=zv h;obtain⟨r,h2,h⟩:=yz h;unfold RepL at q1 q2;obtain⟨v1,r1,rfl,a1,b1⟩:=q1;obtain⟨v2,r2,e,a2,b2⟩:=q2;cases e;rw[<-h,ih I h1 a1 a2,ihx h2 b1 b2];rfl
   unfold eqN at h;split at h
   · rename_i xs ys;obtain⟨p,vs,rfl,t1,q1⟩:=r1.refT;obtain⟨p',vs',e,t2,q2⟩:=r2.refT;cases e;have:=I.tuple_inj t1.sq t2.sq;subst this;exact lst h q1 q2
   · rename_i xs ys;obtain⟨p,vs,rfl,t1,q1⟩:=r1.refL;obtain⟨p',vs',e,t2,q2⟩:=r2.refL;cases e;have:=I.list_inj t1.sq t2.sq;subst this;rw[z5g (by rw[q1.length,q2.length])]at h;exact lst h q1 q2
   · rename_i xs ys;obtain⟨p,vs,rfl,t1,q1⟩:=r1.refT;obtain⟨p',vs',e,t2,q2⟩:=r2.refL;cases e;obtain⟨_,_,⟨o,e1,c1,_⟩,_⟩:=I.tuple t1.sq;obtain⟨_,_,⟨o',_,e2,c2,_⟩,_⟩:=I.list t2.sq;rw[e1]at e2;cases e2;rw[c1]at c2;exact absurd (Value.type.inj c2) (by decide)
   · rename_i xs ys;obtain⟨p,vs,rfl,t1,q1⟩:=r1.refL;obtain⟨p',vs',e,t2,q2⟩:=r2.refT;cases e;obtain⟨_,_,⟨o,e1,c1,_⟩,_⟩:=I.tuple t2.sq;obtain⟨_,_,⟨o',_,e2,c2,_⟩,_⟩:=I.list t1.sq;rw[e1]at e2;cases e2;rw[c1]at c2;exact absurd (Value.type.inj c2) (by decide)
   · split at h
     · rename_i hs;split at h
       · rename_i hb;obtain⟨y,ey⟩:=z7a.mp hb;obtain⟨rfl,f2⟩:=jy ey r2;cases d1 with
         |tup _=>obtain⟨p,_,rfl,_⟩:=r1.refT;cases f2
         |lst _=>obtain⟨p,_,rfl,_⟩:=r1.refL;cases f2
         |_=>cases hs
       · cases h
     · split at h
       · rename_i hs;split at h
         · rename_i hb;obtain⟨y,ey⟩:=z7a.mp hb;obtain⟨rfl,f2⟩:=jy ey r1;cases d2 with
           |tup _=>obtain⟨p,_,rfl,_⟩:=r2.refT;cases f2
           |lst _=>obtain⟨p,_,rfl,_⟩:=r2.refL;cases f2
           |_=>cases hs
         · cases h
       · obtain⟨x,y,e1,e2,rfl⟩:=zc2 h;obtain⟨rfl,f1⟩:=jy e1 r1;obtain⟨rfl,f2⟩:=jy e2 r2;cases v<;>first | (cases f1;done) | (simp[eqV];done)
theorem zm2{A:Around}{x y:V}{u w:Value}(ru:RelV x u)(rw':RelV y w)(fx:zij x=true)(fy:zij y=true):SeqAt.RcAt A s u w (eqV x y):=by
 cases x with
 | non=>
   cases ru;cases y with
   |non=>cases rw';exact SeqAt.RcAt.none_none
   |bl b=>cases rw';exact SeqAt.RcAt.none_bool b
   |int b=>obtain⟨t,rfl⟩:=rw';exact SeqAt.RcAt.none_int b t
   |str b=>obtain⟨t,rfl⟩:=rw';exact SeqAt.RcAt.none_str b t
   |_=>cases fy
 | bl a=>
   cases ru;cases y with
   |non=>cases rw';exact SeqAt.RcAt.bool_none a
   |bl b=>cases rw';exact SeqAt.RcAt.bool_bool a b
   |int b=>obtain⟨t,rfl⟩:=rw';exact SeqAt.RcAt.bool_int a b t
   |str b=>obtain⟨t,rfl⟩:=rw';exact SeqAt.RcAt.bool_str a b t
   |_=>cases fy
 | int a=>
   obtain⟨t',rfl⟩:=ru;cases y with
   |non=>cases rw';exact SeqAt.RcAt.int_none a t'
   |bl b=>cases rw';exact SeqAt.RcAt.int_bool a t' b
   |int b=>obtain⟨t,rfl⟩:=rw';exact SeqAt.RcAt.int_int a t' b t
   |str b=>obtain⟨t,rfl⟩:=rw';exact SeqAt.RcAt.int_str a t' b t
   |_=>cases fy
 | str a=>
   obtain⟨t',rfl⟩:=ru;cases y with
   |non=>cases rw';exact SeqAt.RcAt.str_none a t'
   |bl b=>cases rw';exact SeqAt.RcAt.str_bool a t' b
   |int b=>obtain⟨t,rfl⟩:=rw';exact SeqAt.RcAt.str_int a t' b t
   |str b=>obtain⟨t,rfl⟩:=rw';exact SeqAt.RcAt.str_str a t' b t
   |_=>cases fy
 |_=>cases fx
theorem zgr{A:Around}{x y:V}{u w:Value}(ru:RelV x u)(rw':RelV y w)(fx:zij x=true)(fy:zij y=true):SeqAt.RcNeAt A s u w (!eqV x y):=by
 cases x with
 | non=>
   cases ru;cases y with
   |non=>cases rw';exact SeqAt.RcNeAt.none_none
   |bl b=>cases rw';exact SeqAt.RcNeAt.none_bool b
   |int b=>obtain⟨t,rfl⟩:=rw';exact SeqAt.RcNeAt.none_int b t
   |str b=>obtain⟨t,rfl⟩:=rw';exact SeqAt.RcNeAt.none_str b t
   |_=>cases fy
 | bl a=>
   cases ru;cases y with
   |non=>cases rw';exact SeqAt.RcNeAt.bool_none a
   |bl b=>cases rw';exact SeqAt.RcNeAt.bool_bool a b
   |int b=>obtain⟨t,rfl⟩:=rw';exact SeqAt.RcNeAt.bool_int a b t
   |str b=>obtain⟨t,rfl⟩:=rw';exact SeqAt.RcNeAt.bool_str a b t
   |_=>cases fy
 | int a=>
   obtain⟨t',rfl⟩:=ru;cases y with
   |non=>cases rw';exact SeqAt.RcNeAt.int_none a t'
   |bl b=>cases rw';exact SeqAt.RcNeAt.int_bool a t' b
   |int b=>obtain⟨t,rfl⟩:=rw';exact SeqAt.RcNeAt.int_int a t' b t
   |str b=>obtain⟨t,rfl⟩:=rw';exact SeqAt.RcNeAt.int_str a t' b t
   |_=>cases fy
 | str a=>
   obtain⟨t',rfl⟩:=ru;cases y with
   |non=>cases rw';exact SeqAt.RcNeAt.str_none a t'
   |bl b=>cases rw';exact SeqAt.RcNeAt.str_bool a t' b
   |int b=>obtain⟨t,rfl⟩:=rw';exact SeqAt.RcNeAt.str_int a t' b t
   |str b=>obtain⟨t,rfl⟩:=rw';exact SeqAt.RcNeAt.str_str a t' b t
   |_=>cases fy
 |_=>cases fx
theorem zj0{A:Around}{n:Nat}{xs ys:List D}{vs us:List V}{its its2:List Value}(hq:∀{d1 d2:D}{v w:V}{a b:Value}{k:Bool},eqN n d1 d2=some k->Rep X.K mg ρ H d1 v->Rep X.K mg ρ H d2 w->RelV v a->RelV w b->SeqAt.EqAt A s a b k){k:Bool}(h:eqL (eqN n) xs ys=some k)
   (r1:RepL X.K mg ρ H xs vs) (r2:RepL X.K mg ρ H ys us) (q1:Vals vs its) (q2:Vals us its2) :
   ∀j (h1:j<its.toArray.size) (h2:j<its2.toArray.size),SeqAt.EqAt A s its.toArray[j] its2.toArray[j] (zlz (eqN n) xs ys j):=by
 intro j h1 h2;have l1:=r1.length;have l2:=r2.length;have l3:=q1.length;have l4:=q2.length;rw[z45]at h1 h2;have e1:xs[j]? = some xs[j]:=z4x (by omega);have e2:ys[j]? = some ys[j]:=z4x (by omega);obtain⟨v,ev,rv⟩:=r1.get e1;obtain⟨w,ew,rw'⟩:=r2.get e2;obtain⟨a,ea,ra⟩:=q1.get ev;obtain⟨b,eb,rb⟩:=q2.get ew;obtain⟨c,hc⟩:=zsy h j _ _ e1 e2;have z1:its.toArray[j]=a:=by rw[z4x h1]at ea;simpa using ea
 have z2:its2.toArray[j]=b:=by rw[z4x h2]at eb;simpa using eb
 have z3:zlz (eqN n) xs ys j=c:=by simp[zlz,e1,e2,hc]
 rw[z1,z2,z3];exact hq hc rv rw' ra rb
theorem zzn:∀(n:Nat) {A:Around}{d1 d2:D}{v w:V}{a b:Value}{k:Bool},Inv X pins σ H s->A.units+n<cLine->eqN n d1 d2=some k->Rep X.K mg ρ H d1 v->Rep X.K mg ρ H d2 w->RelV v a->RelV w b ->
   SeqAt.RcAt A s a b k/\SeqAt.RcNeAt A s a b (!k)/\SeqAt.EqAt A s a b k:=by
 intro n
 induction n with
 | zero=>
   intro A d1 d2 v w a b k I hu h r1 r2 ra rb;obtain⟨x,y,e1,e2,rfl⟩:=zc2 h;obtain⟨rfl,f1⟩:=jy e1 r1;obtain⟨rfl,f2⟩:=jy e2 r2;exact⟨zm2 ra rb f1 f2,zgr ra rb f1 f2,zsz ra rb f1 f2⟩
 | succ n ih=>
   intro A d1 d2 v w a b k I hu h r1 r2 ra rb;have hs:∀{u:V},Rep X.K mg ρ H d1 u->Rep X.K mg ρ H d2 u->k=true:=fun a b=>zvm (n+1) I h a b;have hin:A.in1.units+n<cLine:=by show A.units+1+n<cLine;omega
   have hu0:A.units<cLine:=by omega
   have same:∀{p q:Addr},v=.ref p->w=.ref q->SeqAt.RcAt A s (.ref p) (.ref q) k->SeqAt.EqAt A s a b k:=by
     intro p q e1 e2 rc;subst e1 e2;cases ra;cases rb;by_cases hpq:p=q
     · subst hpq;rw[hs r1 r2];exact SeqAt.EqAt.same _
     · exact SeqAt.EqAt.of_refs hpq rc
   unfold eqN at h;split at h
   · rename_i xs ys;obtain⟨p,vs,rfl,t1,q1⟩:=r1.refT;obtain⟨p',us,rfl,t2,q2⟩:=r2.refT;cases ra;cases rb;obtain⟨its,z1,pt1,_⟩:=I.tuple t1.sq;obtain⟨its2,z2,pt2,_⟩:=I.tuple t2.sq;have hit:=zj0 (A:=A.in1) (s:=s) (fun e a1 a2 a3 a4=>(ih I hin e a1 a2 a3 a4).2.2) h q1 q2 z1 z2;have l1:=q1.length;have l2:=q2.length;have l3:=z1.length;have l4:=z2.length;have ek:k=((List.range (min its.toArray.size its2.toArray.size)).all (zlz (eqN n) xs ys)&&its.toArray.size==its2.toArray.size):=by rw[z45,z45,<-l3,<-l4,<-l1,<-l2];exact zq8 h
     have rc:=SeqAt.RcAt.tuples (A:=A) (s:=s) pt1 pt2 hu0 hit;have rn:=SeqAt.RcNeAt.tuples (A:=A) (s:=s) pt1 pt2 hu0 hit;rw[<-ek]at rc;refine⟨rc,?_,same rfl rfl rc⟩;rw[ek];exact rn
   · rename_i xs ys;obtain⟨p,vs,rfl,t1,q1⟩:=r1.refL;obtain⟨p',us,rfl,t2,q2⟩:=r2.refL;cases ra;cases rb;obtain⟨its,z1,pt1,_⟩:=I.list t1.sq;obtain⟨its2,z2,pt2,_⟩:=I.list t2.sq;have l1:=q1.length;have l2:=q2.length;have l3:=z1.length;have l4:=z2.length;split at h
     · rename_i hl;have hit:=zj0 (A:=A.in1) (s:=s) (fun e a1 a2 a3 a4=>(ih I hin e a1 a2 a3 a4).2.2) h q1 q2 z1 z2;have hsz:its.toArray.size=its2.toArray.size:=by rw[z45,z45];omega
       have ek:k=(List.range its.toArray.size).all (zlz (eqN n) xs ys):=by rw[z45,<-l3,<-l1];exact zik h hl
       have rc:=SeqAt.RcAt.lists (A:=A) (s:=s) pt1.isList pt2.isList hsz hu0 hit;have rn:=SeqAt.RcNeAt.lists (A:=A) (s:=s) pt1.isList pt2.isList hsz hu0 hit;rw[<-ek]at rc;refine⟨rc,?_,same rfl rfl rc⟩;rw[ek];exact rn
     · rename_i hl;cases h;have hsz:(its.toArray.size != its2.toArray.size)=true:=by rw[z45,z45];simp;omega
       have rc:=SeqAt.RcAt.lists_lengths (A:=A) (s:=s) pt1.isList pt2.isList hsz hu0;have rn:=SeqAt.RcNeAt.lists_lengths (A:=A) (s:=s) pt1.isList pt2.isList hsz hu0;exact⟨rc,rn,same rfl rfl rc⟩
   · rename_i xs ys;cases h;obtain⟨p,vs,rfl,t1,q1⟩:=r1.refT;obtain⟨p',us,rfl,t2,q2⟩:=r2.refL;cases ra;cases rb;obtain⟨its,z1,pt1,_⟩:=I.tuple t1.sq;obtain⟨its2,z2,pt2,_⟩:=I.list t2.sq;exact⟨SeqAt.RcAt.tuple_list pt1 pt2.isList hu0,SeqAt.RcNeAt.tuple_list pt1 pt2.isList hu0,SeqAt.EqAt.tuple_list pt1 pt2.isList hu0⟩
   · rename_i xs ys;cases h;obtain⟨p,vs,rfl,t1,q1⟩:=r1.refL;obtain⟨p',us,rfl,t2,q2⟩:=r2.refT;cases ra;cases rb;obtain⟨its,z1,pt1,_⟩:=I.list t1.sq;obtain⟨its2,z2,pt2,_⟩:=I.tuple t2.sq;exact⟨SeqAt.RcAt.list_tuple pt1.isList pt2 hu0,SeqAt.RcNeAt.list_tuple pt1.isList pt2 hu0,SeqAt.EqAt.list_tuple pt1.isList pt2 hu0⟩
   · split at h
     · rename_i hsq;split at h
       · rename_i hb;cases h;obtain⟨y,ey⟩:=z7a.mp hb;obtain⟨rfl,f2⟩:=jy ey r2;cases d1 with
         | tup _=>
           obtain⟨p,vs,rfl,t1,q1⟩:=r1.refT;cases ra;obtain⟨its,z1,pt,_⟩:=I.tuple t1.sq;cases w with
           |non=>cases rb;exact⟨SeqAt.RcAt.tuple_none pt hu0,SeqAt.RcNeAt.tuple_none pt hu0,SeqAt.EqAt.tuple_none pt hu0⟩
           |bl c=>cases rb;exact⟨SeqAt.RcAt.tuple_bool c pt hu0,SeqAt.RcNeAt.tuple_bool c pt hu0,SeqAt.EqAt.tuple_bool c pt hu0⟩
           |int c=>obtain⟨t,rfl⟩:=rb;exact⟨SeqAt.RcAt.tuple_int c t pt hu0,SeqAt.RcNeAt.tuple_int c t pt hu0,SeqAt.EqAt.tuple_int c t pt hu0⟩
           |str c=>obtain⟨t,rfl⟩:=rb;exact⟨SeqAt.RcAt.tuple_str c t pt hu0,SeqAt.RcNeAt.tuple_str c t pt hu0,SeqAt.EqAt.tuple_str c t pt hu0⟩
           |_=>cases f2
         | lst _=>
           obtain⟨p,vs,rfl,t1,q1⟩:=r1.refL;cases ra;obtain⟨its,z1,pl,_⟩:=I.list t1.sq;have pt:=pl.isList;cases w with
           |non=>cases rb;exact⟨SeqAt.RcAt.list_none pt hu0,SeqAt.RcNeAt.list_none pt hu0,SeqAt.EqAt.list_none pt hu0⟩
           |bl c=>cases rb;exact⟨SeqAt.RcAt.list_bool c pt hu0,SeqAt.RcNeAt.list_bool c pt hu0,SeqAt.EqAt.list_bool c pt hu0⟩
           |int c=>obtain⟨t,rfl⟩:=rb;exact⟨SeqAt.RcAt.list_int c t pt hu0,SeqAt.RcNeAt.list_int c t pt hu0,SeqAt.EqAt.list_int c t pt hu0⟩
           |str c=>obtain⟨t,rfl⟩:=rb;exact⟨SeqAt.RcAt.list_str c t pt hu0,SeqAt.RcNeAt.list_str c t pt hu0,SeqAt.EqAt.list_str c t pt hu0⟩
           |_=>cases f2
         |_=>cases hsq
       · cases h
     · split at h
       · rename_i hsq;split at h
         · rename_i hb;cases h;obtain⟨y,ey⟩:=z7a.mp hb;obtain⟨rfl,f2⟩:=jy ey r1;cases d2 with
           | tup _=>
             obtain⟨p,vs,rfl,t1,q1⟩:=r2.refT;cases rb;obtain⟨its,z1,pt,_⟩:=I.tuple t1.sq;cases v with
             |non=>cases ra;exact⟨SeqAt.RcAt.none_tuple pt hu0,SeqAt.RcNeAt.none_tuple pt hu0,SeqAt.EqAt.none_tuple pt hu0⟩
             |bl c=>cases ra;exact⟨SeqAt.RcAt.bool_tuple c pt hu0,SeqAt.RcNeAt.bool_tuple c pt hu0,SeqAt.EqAt.bool_tuple c pt hu0⟩
             |int c=>obtain⟨t,rfl⟩:=ra;exact⟨SeqAt.RcAt.int_tuple c t pt hu0,SeqAt.RcNeAt.int_tuple c t pt hu0,SeqAt.EqAt.int_tuple c t pt hu0⟩
             |str c=>obtain⟨t,rfl⟩:=ra;exact⟨SeqAt.RcAt.str_tuple c t pt hu0,SeqAt.RcNeAt.str_tuple c t pt hu0,SeqAt.EqAt.str_tuple c t pt hu0⟩
             |_=>cases f2
           | lst _=>
             obtain⟨p,vs,rfl,t1,q1⟩:=r2.refL;cases rb;obtain⟨its,z1,pl,_⟩:=I.list t1.sq;have pt:=pl.isList;cases v with
             |non=>cases ra;exact⟨SeqAt.RcAt.none_list pt hu0,SeqAt.RcNeAt.none_list pt hu0,SeqAt.EqAt.none_list pt hu0⟩
             |bl c=>cases ra;exact⟨SeqAt.RcAt.bool_list c pt hu0,SeqAt.RcNeAt.bool_list c pt hu0,SeqAt.EqAt.bool_list c pt hu0⟩
             |int c=>obtain⟨t,rfl⟩:=ra;exact⟨SeqAt.RcAt.int_list c t pt hu0,SeqAt.RcNeAt.int_list c t pt hu0,SeqAt.EqAt.int_list c t pt hu0⟩
             |str c=>obtain⟨t,rfl⟩:=ra;exact⟨SeqAt.RcAt.str_list c t pt hu0,SeqAt.RcNeAt.str_list c t pt hu0,SeqAt.EqAt.str_list c t pt hu0⟩
             |_=>cases f2
           |_=>cases hsq
         · cases h
       · obtain⟨x,y,e1,e2,rfl⟩:=zc2 h;obtain⟨rfl,f1⟩:=jy e1 r1;obtain⟨rfl,f2⟩:=jy e2 r2;exact⟨zm2 ra rb f1 f2,zgr ra rb f1 f2,zsz ra rb f1 f2⟩
end
def xy(a b:D):Option D:=(eqN 150 a b).map D.bl
def zut(a b:D):Option D:=(eqN 150 a b).map fun k=>D.bl !k
section
variable {X:Cx}{a b:Expr}{f g:E}{pos:Pos}
def zv1(K:zFr)(mg:zMg)(neg:Bool):R2:=fun x y H Q=>∃(ρ:List Addr) (d1 d2:D) (k:Bool),Rep K mg ρ H d1 x/\Rep K mg ρ H d2 y/\eqN 150 d1 d2=some k/\Q (.bl (if neg then !k else k)) H
theorem zgv(hu:X.A.units+150<cLine):OpR X (compareOp .Eq) (zv1 X.K X.mg false):=by intro pins s σ H x y v u Q I rx ry h;obtain⟨ρ,d1,d2,k,h1,h2,h3,q⟩:=h;exact(zzn 150 I hu h3 h1 h2 rx ry).1 _ _ _ _ ⟨.bl k,H,I,rfl,q⟩
theorem zsk(hu:X.A.units+150<cLine):OpR X (compareOp .NotEq) (zv1 X.K X.mg true):=by intro pins s σ H x y v u Q I rx ry h;obtain⟨ρ,d1,d2,k,h1,h2,h3,q⟩:=h;exact(zzn 150 I hu h3 h1 h2 rx ry).2.1 _ _ _ _ ⟨.bl (!k),H,I,rfl,q⟩
theorem zfg{K mg}:ze7 K mg (zv1 K mg false) (fun _=>xy):=by intro ρ H S x y dx dy d Q hS rx ry e k;obtain⟨c,e1,e⟩:=yz e;subst e;exact⟨ρ,dx,dy,c,rx,ry,e1,k _ H (Ext.refl _ _) hS rfl⟩
theorem ztx{K mg}:ze7 K mg (zv1 K mg true) (fun _=>zut):=by intro ρ H S x y dx dy d Q hS rx ry e k;obtain⟨c,e1,e⟩:=yz e;subst e;exact⟨ρ,dx,dy,c,rx,ry,e1,k _ H (Ext.refl _ _) hS rfl⟩
theorem zvj{k:Nat}(hr:Room k X.A)(ha:FE X a f)(hb:FE X b g)(hm:behindInMarks .Eq b=false:=by exact kr _):FE X (.Compare a [.Eq] [b] pos) (e2 xy f g):=zg2 (zgv (by have:=hr.un;omega)) zfg ha hb hm
theorem zai{k:Nat}(hr:Room k X.A)(ha:FE X a f)(hb:FE X b g)(hm:behindInMarks .Eq b=false:=by exact kr _):FB X (.Compare a [.Eq] [b] pos) (bE (e2 xy f g)):=zbz (zgv (by have:=hr.un;omega)) zfg ha hb hm
theorem z2j{k:Nat}(hr:Room k X.A)(ha:FE X a f)(hb:FE X b g)(hm:behindInMarks .NotEq b=false:=by exact kr _):FB X (.Compare a [.NotEq] [b] pos) (bE (e2 zut f g)):=zbz (zsk (by have:=hr.un;omega)) ztx ha hb hm
end
def zce(S:Sto):List D->Option D
 | [.lst ds]=>some (.int ds.length)
 | [.tup ds]=>some (.int ds.length)
 | [.str z]=>if z.length<=sizeLine then some (.int z.length)else none
 | [.obj a]=>(match S[a]? with
   |some (.lst ds)=>some (.int ds.length)
   |_=>none)
 |_=>none
def zv7(_:Sto):List D->Option D
 | [.int i]=>some (.int (if i<0 then -i else i))
 |_=>none
def zye(_:Sto):List D->Option D
 | [.int i,.int j]=>some (.int (if j>i then j else i))
 |_=>none
inductive Ty where
 |non | bl | int | str | tup | lst
 deriving DecidableEq
def Ty.name:Ty->String
 | .non=>"NoneType" | .bl=>"bool" | .int=>"int" | .str=>"str" | .tup=>"tuple" | .lst=>"list"
def tyD(S:Sto):D->Option Ty
 | .non=>some .non
 | .bl _=>some .bl
 | .int _=>some .int
 | .str _=>some .str
 | .tup _=>some .tup
 | .lst _=>some .lst
 | .obj a=>(match S[a]? with
   |some (.lst _)=>some .lst
   |_=>none)
 |_=>none
def isT(t c:Ty):Bool:=decide (t=c)||(decide (t=.bl)&&decide (c=.int))
def tyOf?:String->Option Ty
 | "bool"=>some .bl | "int"=>some .int | "str"=>some .str | "tuple"=>some .tup | "list"=>some .lst | _=>none
def zlx(S:Sto):List D->Option D
 | [d,.ty n]=>(tyOf? n).bind fun c=>(tyD S d).map fun t=>.bl (isT t c)
 |_=>none
section
variable {X:Cx}{K:zFr}{mg:zMg}
theorem one{ρ H d xs}(r:RepL K mg ρ H [d] xs):∃v,xs=[v]/\Rep K mg ρ H d v:=by unfold RepL at r;obtain⟨v,t,rfl,h1,h2⟩:=r;unfold RepL at h2;subst h2;exact⟨v,rfl,h1⟩
theorem two{ρ H d e xs}(r:RepL K mg ρ H [d,e] xs):∃v w,xs=[v,w]/\Rep K mg ρ H d v/\Rep K mg ρ H e w:=by unfold RepL at r;obtain⟨v,t,rfl,h1,h2⟩:=r;obtain⟨w,rfl,h3⟩:=one h2;exact⟨v,w,rfl,h1,h3⟩
theorem zt0:zry K mg (fun xs H Q=>(∃p ys,xs=[.ref p]/\(SqL K H p ys\/SqT K H p ys)/\Q (.int ys.length) H)\/(∃z,xs=[.str z]/\z.length<=sizeLine/\Q (.int z.length) H)) zce:=by
 intro ρ H S xs ds d Q hS r e k;unfold zce at e;split at e
 · cases e;replace r:=one r;obtain⟨v,rfl,r⟩:=r;obtain⟨p,vs,rfl,t,r⟩:=r.refL;exact .inl ⟨p,vs,rfl,.inl t.sq,by rw[<-r.length];exact k _ H (Ext.refl _ _) hS rfl⟩
 · cases e;replace r:=one r;obtain⟨v,rfl,r⟩:=r;obtain⟨p,vs,rfl,t,r⟩:=r.refT;exact .inl ⟨p,vs,rfl,.inr t.sq,by rw[<-r.length];exact k _ H (Ext.refl _ _) hS rfl⟩
 · split at e
   · rename_i hz;cases e;replace r:=one r;obtain⟨v,rfl,r⟩:=r;rw[r.refS];exact .inr ⟨_,rfl,hz,k _ H (Ext.refl _ _) hS rfl⟩
   · cases e
 · split at e
   · rename_i ds hd;cases e;replace r:=one r;obtain⟨v,rfl,r⟩:=r;unfold Rep at r;obtain⟨p,rfl,hp⟩:=r;obtain⟨vs,h1,r⟩:=hS.ob _ _ p hd hp;exact .inl ⟨p,vs,rfl,.inl (SqL.of h1),by rw[<-r.length];exact k _ H (Ext.refl _ _) hS rfl⟩
   · cases e
 · cases e
variable {e:Expr}{es:List Expr}{p pos:Pos}{g:As}
theorem km(hm:X.mg "len"=none)(ha:FA X [e] g)(hg:Gl X "len":=by rfl)(he:starEach [e] X.env=(false,eval e X.env)::starEach [] X.env:=by exact zy rfl)(hpl:(backTo pos (starEach [] X.env)).any (·.1)=false:=by exact qx rfl):FE X (.Call (.Name "len" p) [e] [] pos) (eA zce g) :=
 zg3 (call_len_seq.or zhc) zt0 hm PySem.boot_len ha hg (by decide) (by decide) he hpl
theorem zt5:zry K mg (fun xs H Q=>∃i,xs=[.int i]/\Q (.int (if i<0 then -i else i)) H) zv7:=by
 intro ρ H S xs ds d Q hS r e k;unfold zv7 at e;split at e
 · cases e;replace r:=one r;obtain⟨v,rfl,r⟩:=r;rw[r.refI];exact⟨_,rfl,k _ H (Ext.refl _ _) hS rfl⟩
 · cases e
theorem zsv(hm:X.mg "abs"=none)(ha:FA X [e] g)(hg:Gl X "abs":=by rfl)(he:starEach [e] X.env=(false,eval e X.env)::starEach [] X.env:=by exact zy rfl)(hpl:(backTo pos (starEach [] X.env)).any (·.1)=false:=by exact qx rfl):FE X (.Call (.Name "abs" p) [e] [] pos) (eA zv7 g) :=
 zg3 zrl zt5 hm (by with_unfolding_all rfl) ha hg (by decide) (by decide) he hpl
theorem zty:zry K mg (fun xs H Q=>∃i j,xs=[.int i,.int j]/\Q (.int (if j>i then j else i)) H) zye:=by
 intro ρ H S xs ds d Q hS r e k;unfold zye at e;split at e
 · cases e;replace r:=two r;obtain⟨v,w,rfl,r1,r2⟩:=r;rw[r1.refI,r2.refI];exact⟨_,_,rfl,k _ H (Ext.refl _ _) hS rfl⟩
 · cases e
theorem zzc(hm:X.mg "max"=none)(ha:FA X (e::es) g)(hc:X.calm=true:=by rfl)(hg:Gl X "max":=by rfl)(he:starEach (e::es) X.env=(false,eval e X.env)::starEach es X.env:=by exact zy rfl)(hpl:(backTo pos (starEach es X.env)).any (·.1)=false:=by exact qx rfl):FE X (.Call (.Name "max" p) (e::es) [] pos) (eA zye g) :=
 zg3 (zo1 hc) zty hm (by with_unfolding_all rfl) ha hg (by decide) (by decide) he hpl
theorem zd0{x:Str}(n:String)(hm:X.mg x=none)(hv:bootBuiltins x=some (.type n))(hg:Gl X x:=by rfl)(hn:x≠"__name__":=by decide)(hd:(x==("__debug__":Str))=false:=by decide):FE X (.Name x pos) (eK (.ty n)) :=
 zab (zuq (v:=.ty n) hg hm hv rfl hn hd) fun _ _=>rfl
theorem znv:∀(t c:Ty),c≠.non->PySem.W.kitOne K (.type t.name) (.type c.name)=some (isT t c):=by intro t c hc;cases t<;>cases c<;>first | exact absurd rfl hc | rfl | (with_unfolding_all rfl)
theorem zmb{n:String}{c:Ty}(h:tyOf? n=some c):n=c.name/\c≠.non:=by unfold tyOf? at h;split at h<;>first | (cases h;exact⟨rfl,by decide⟩) | cases h
def z27(K:zFr):List V->Hp->VK->Prop:=fun xs H Q=>∃(x:V) (t c:Ty),xs=[x,.ty c.name]/\c≠.non /\
 (TyOf K H x (.type t.name)\/(t=.tup/\∃p ys,x=.ref p/\SqT K H p ys)\/(t=.lst/\∃p ys,x=.ref p/\SqL K H p ys))/\Q (.bl (isT t c)) H
theorem zrj:CallR X (.builtin "isinstance") (z27 X.K):=by
 intro pins s σ H xs us Q I r h;obtain⟨x,t,c,rfl,hc,ht,q⟩:=h;obtain⟨u1,u2,rfl,r1,r2⟩:∃u1 u2,us=[u1,u2]/\RelV x u1/\RelV (.ty c.name) u2:=by
   cases r with
   | cons p q=>
     cases q with
     |cons p' q'=>cases q';exact⟨_,_,rfl,p,p'⟩
 cases r2;rcases ht with ht | ⟨rfl,p,ys,rfl,hp⟩ | ⟨rfl,p,ys,rfl,hp⟩
 · exact znx I r1 ht (znv t c hc) fun tk=>⟨.bl _,H,I.tok tk,rfl,q⟩
 · cases r1;obtain⟨its,_,⟨o,h1,h2,_⟩,_⟩:=I.tuple hp;exact z6h PySem.W.kitx_tuple I.kIn ⟨o,h1,h2⟩ (znv .tup c hc) (fun z=>nomatch z) fun tk=>⟨.bl _,H,I.tok tk,rfl,q⟩
 · cases r1;obtain⟨its,_,⟨o,n,h1,h2,_,_⟩,_⟩:=I.list hp;exact z6h z93 I.kIn ⟨o,h1,h2⟩ (znv .lst c hc) (fun z=>nomatch z) fun tk=>⟨.bl _,H,I.tok tk,rfl,q⟩
theorem zt1:zry K mg (z27 K) zlx:=by
 intro ρ H S xs ds d Q hS r e k;unfold zlx at e;split at e
 · rename_i d' n;obtain⟨c,hc,e⟩:=zv e;obtain⟨t,ht,e⟩:=yz e;subst e;obtain⟨rfl,hn⟩:=zmb hc;replace r:=two r;obtain⟨v,w,rfl,r1,r2⟩:=r;have r2:w=.ty _:=r2;subst r2;refine⟨v,t,c,rfl,hn,?_,k _ H (Ext.refl _ _) hS rfl⟩;unfold tyD at ht;split at ht
   · cases ht;rw[show v=.non from r1];exact .inl .non
   · cases ht;rw[show v=.bl _ from r1];exact .inl (.bl _)
   · cases ht;rw[show v=.int _ from r1];exact .inl (.int _)
   · cases ht;rw[show v=.str _ from r1];exact .inl (.str _)
   · cases ht;obtain⟨p,vs,rfl,tt,_⟩:=r1.refT;exact .inr (.inl ⟨rfl,p,vs,rfl,tt.sq⟩)
   · cases ht;obtain⟨p,vs,rfl,tt,_⟩:=r1.refL;exact .inr (.inr ⟨rfl,p,vs,rfl,tt.sq⟩)
   · split at ht
     · rename_i ds hd;cases ht;unfold Rep at r1;obtain⟨p,rfl,hp⟩:=r1;obtain⟨vs,h1,_⟩:=hS.ob _ _ p hd hp;exact .inr (.inr ⟨rfl,p,vs,rfl,SqL.of h1⟩)
     · cases ht
   · cases ht
 · cases e
theorem ze1(hm:X.mg "isinstance"=none)(ha:FA X (e::es) g)(hg:Gl X "isinstance":=by rfl)(he:starEach (e::es) X.env=(false,eval e X.env)::starEach es X.env:=by exact zy rfl)(hpl:(backTo pos (starEach es X.env)).any (·.1)=false:=by exact qx rfl):FE X (.Call (.Name "isinstance" p) (e::es) [] pos) (eA zlx g) :=
 zg3 zrj zt1 hm (by with_unfolding_all rfl) ha hg (by decide) (by decide) he hpl
def zlm(xs:List D)(lo hi:Option Int):List D:=(xs.drop (HT.sIx xs.length 0 lo)).take (HT.sIx xs.length xs.length hi-HT.sIx xs.length 0 lo)
def zx4:D->Option Int->Option Int->Option D
 | .lst ds,lo,hi=>some (.lst (zlm ds lo hi))
 | .tup ds,lo,hi=>if HT.sIx ds.length 0 lo=0/\HT.sIx ds.length ds.length hi=ds.length then none else some (.tup (zlm ds lo hi))
 |_,_,_=>none
abbrev Pt:=Ev->Sto->Option (Option Int×Sto)
def pN:Pt:=fun _ S=>some (none,S)
def pE(f:E):Pt:=fun ev S=>(f ev S).bind fun p=>match p.1 with
 | .int i=>some (some i,p.2)
 |_=>none
def eSl(f:E)(a b:Pt):E:=fun ev S=>(f ev S).bind fun p=>(a ev p.2).bind fun q=>(b ev q.2).bind fun r=>(zx4 p.1 q.1 r.1).map fun d=>(d,r.2)
def tPt(K:zFr)(mg:zMg)(f:Pt):TO:=fun σ H Q=>∃ρ ev S o S',EnvR K mg ρ H ev σ/\StOk K mg ρ H S/\f ev S=some (o,S')/\∀ρ' H',Ext ρ H ρ' H'->StOk K mg ρ' H' S'->Q o H'
def FPt(X:Cx)(e:Option Expr)(f:Pt):Prop:=PO X e (tPt X.K X.mg f)
theorem znd{e:Option Expr}{t t':TO}(h:PO X e t)(m:∀σ H Q,t' σ H Q->t σ H Q):PO X e t':=fun pins s σ H Q I q=>h pins s σ H Q I (m _ _ _ q)
theorem zcf:FPt X none pN:=znd zum fun σ H Q h=>by obtain⟨ρ,ev,S,o,S',hE,hS,hf,k⟩:=h;cases hf;exact k ρ H (Ext.refl _ _) hS
theorem zax{f:E}(h:FE X e f):FPt X (some e) (pE f):=znd (zul h) fun σ H Q h=>by
 obtain⟨ρ,ev,S,o,S',hE,hS,hf,k⟩:=h;obtain⟨⟨x,S1⟩,q1,hf⟩:=zv hf;cases x with
 | int i=>
   cases hf;exact⟨ρ,ev,S,_,_,hE,hS,q1,fun v ρ1 H1 E1 hS1 r1=>⟨i,r1,k ρ1 H1 E1 hS1⟩⟩
 |_=>cases hf
theorem zox{ρ H ds vs}(r:RepL K mg ρ H ds vs)(lo hi:Option Int):RepL K mg ρ H (zlm ds lo hi) (zs4 vs lo hi):=by unfold zlm zs4;rw[r.length];exact(r.drop _).take _
theorem za8{a:Expr}{lo hi:Option Expr}{f:E}{u w:Pt}{p2:Pos}(ha:FE X a f)(hl:FPt X lo u)(hh:FPt X hi w):FE X (.Subscript a (.Slice lo hi none p2) pos) (eSl f u w) :=
 qz (zjn (sl_list.or zwt) ha hl hh) fun σ H Q h=>by
   obtain⟨ρ,ev,S,d,S',hE,hS,hf,k⟩:=h;obtain⟨⟨x,S1⟩,q1,hf⟩:=zv hf;obtain⟨⟨lo,S2⟩,q2,hf⟩:=zv hf;obtain⟨⟨hi,S3⟩,q3,hf⟩:=zv hf;obtain⟨z,q4,hf⟩:=yz hf;cases hf;refine⟨ρ,ev,S,x,S1,hE,hS,q1,fun v ρ1 H1 E1 hS1 r1=>⟨ρ1,ev,S1,lo,S2,hE.mono E1,hS1,q2,fun ρ2 H2 E2 hS2=>⟨ρ2,ev,S2,hi,_,(hE.mono E1).mono E2,hS2,q3,fun ρ3 H3 E3 hS3=>?_⟩⟩⟩;have r3:=(r1.mono E2).mono E3;have E:=(E1.trans E2).trans E3;cases x with
   | lst ds=>
     cases q4;obtain⟨p,vs,rfl,t,r⟩:=r3.refL;exact .inl ⟨p,vs,rfl,t.sq,fun b hb=>k _ _ _ (E.trans (jl hS3 _ hb)) (hS3.new _ hb) (Rep.lst (s:=hS3) hb (zox r lo hi))⟩
   | tup ds=>
     replace q4:(if HT.sIx ds.length 0 lo=0/\HT.sIx ds.length ds.length hi=ds.length then none else some (D.tup (zlm ds lo hi)))=some d:=q4;split at q4
     · cases q4
     · rename_i hn;cases q4;obtain⟨p,vs,rfl,t,r⟩:=r3.refT;exact .inr ⟨p,vs,rfl,t.sq,by rw[<-r.length];exact hn,fun b hb=>k _ _ _ (E.trans (jl hS3 _ hb)) (hS3.new _ hb) (Rep.tup (s:=hS3) hb (zox r lo hi))⟩
   |_=>cases q4
theorem zdx{o:Expr}{f h:E}{apos spos:Pos}(ho:FE X o f)(hv:FE X e h)
   (hbase:attributeBase o "append" X.env (eval o X.env)=eval o X.env:=by rfl)
   (hfew:((backTo pos (starEach [e] X.env)).all (fun x=>!x.1)&&(backToKw pos (keywordEach [] X.env)).all (fun x=>x.1.isSome)
     && decide ([e].length+([]:List Keyword).length+(if([]:List Keyword).isEmpty then 0 else 1)<30))=true:=by rfl)
   (hline:(apos.endLine==pos.line)=true:=by rfl) (hs:starEach [e] X.env=(false,eval e X.env)::starEach [] X.env:=by exact zy rfl) (hplain:(backTo pos (starEach [] X.env)).any (·.1)=false:=by exact qx rfl)
   (hsw:swapsWith (.Call (.Attribute o "append" apos) [e] [] pos) none spos.line X.env=pure false:=by rfl) :
   FS X (.Expr (.Call (.Attribute o "append" apos) [e] [] pos) spos) (zap f h) :=
 yc (zna (z1q PySem.F.plainAttrs_list PySem.F.slot_list_append PySem.F.type_list_append zno ho (zb hv zd hs) hbase hfew hline hs hplain) hsw) fun σ H D h=>by
   obtain⟨ρ,ev,S,o,S',hE,hS,hf,k⟩:=h;obtain⟨⟨x,S1⟩,q1,hf⟩:=zv hf;cases x with
   | obj a=>
     dsimp only at hf;split at hf
     · rename_i ds0 hd0;obtain⟨⟨y,S2⟩,q2,hf⟩:=zv hf;dsimp only at hf;split at hf
       · rename_i ds hd;split at hf
         · rename_i hl;cases hf;refine⟨ρ,ev,S,_,S1,hE,hS,q1,fun v ρ1 H1 E1 hS1 r1=>?_⟩;have r1':=r1;unfold Rep at r1';obtain⟨p,rfl,hp⟩:=r1';obtain⟨us0,hu0,_⟩:=hS1.ob a _ p hd0 hp;refine⟨.inl ⟨rfl,_,SqL.of hu0⟩,ρ1,ev,S1,[y],S2,hE.mono E1,hS1,by simp only[aC,aN,q2,Option.bind_some],fun vs ρ2 H2 E2 hS2 r2=>?_⟩;obtain⟨w,rfl,r3⟩:=one r2;have hp2:=E2.pre _ _ hp;obtain⟨us,h2,h3⟩:=hS2.ob a _ p hd hp2;have e0:=zf0 hS2 (.lst (us++[w])) hp2;refine⟨p,us,w,rfl,rfl,h2,by rw[<-h3.length];exact hl,?_⟩;refine k σ ρ2 _ ((E1.trans E2).trans e0) (hS2.set hp2 ⟨_,qg,?_⟩) (((hE.mono E1).mono E2).mono e0);exact(h3.append (RepL.cons r3 RepL.nil)).mono e0
         · cases hf
       · cases hf
     · cases hf
   |_=>cases hf
theorem boot_list:bootBuiltins "list"=some (.type "list"):=by with_unfolding_all rfl
theorem boot_bool:bootBuiltins "bool"=some (.type "bool"):=by with_unfolding_all rfl
theorem zrq:bootBuiltins "str"=some (.type "str"):=by with_unfolding_all rfl
end
def zv5(n:Nat)(g:G):G:=fun ds S=>g (ds++List.replicate n .non) S
def z2w(K:zFr)(dV:Value):Nat->Prop
 |0=>dV=.none
 |n+1=>∃(T:Addr) (o:Obj) (m:Nat),dV=.ref T/\K.lookup T=some o/\o.data=.seq (Array.replicate (n+1) Value.none) m
structure HasDef (K:zFr) (mg:zMg) (x:Str) (st:Stmt) (nd:Nat):Prop where
 ex:∃(f:Addr) (fd:FuncData) (dV:Value),FunD K x x st f fd dV/\mg x=some (.ref f)/\z2w K dV nd
structure HasMth (K:zFr) (mg:zMg) (c m qual:Str) (st:Stmt):Prop where
 ex:∃(C f:Addr) (fd:FuncData),FunD K m qual st f fd .none/\mg c=some (.ref C)/\Cls K C/\Meth K C m f
structure HasMk (K:zFr) (mg:zMg) (c qual:Str) (st:Stmt) (nd:Nat):Prop where
 ex:∃(C f:Addr) (fd:FuncData) (dV:Value),FunD K "__init__" qual st f fd dV/\mg c=some (.ref C)/\Mk K C f/\z2w K dV nd
def zti(x qual:Str)(st:Stmt)(ps:List Str):Prop:=∀(kV doc pm:Value) (an:Option Addr) (cdv ct:Value) (us:List Value),us.length=ps.length ->
 bindArgs (PySem.W.fnOf x qual (zbj st) (jb st) (zh st) .none kV doc pm an cdv ct) ⟨us,[]⟩=pure (ps.zip us)
def z20(x qual:Str)(st:Stmt)(ps:List Str)(n:Nat):Prop:=∀(T:Addr) (kV doc pm:Value) (an:Option Addr) (cdv ct:Value) (us:List Value),us.length=n ->
 ∃kk,bindArgs (PySem.W.fnOf x qual (zbj st) (jb st) (zh st) (.ref T) kV doc pm an cdv ct) ⟨us,[]⟩=(seqItems? (.ref T) >>= kk)/\kk (some #[Value.none])=pure (ps.zip (us++List.replicate (ps.length-n) Value.none))
section
variable {P:Program}{w:World}{K:zFr}{mg:zMg}{base:Heap}{x qual c m:Str}{st:Stmt}{N ps:List Str}{k:Nat}{b:C}{dV:Value}{f:Addr}{fd:FuncData}
abbrev z03(P:Program)(w:World)(K:zFr)(mg:zMg)(base:Heap)(N:List Str)(qual:Str)(st:Stmt)(k:Nat)(b:C):Prop :=
 ∀(f:Addr) (cdv:Value) (A:Around) (outer:List Env) (s:Shared) (H:Hp) (E:XK),Room k (A.deeper (envOfC qual (zh st) s.heap.objs.size f cdv)) ->
     FSs (zbp CX0 P w K mg base N qual (zh st) f cdv A outer s H E).nox (jb st) b
theorem FunD.binds0(F:FunD K x qual st f fd .none)(h:zti x qual st ps):Binds K fd ps []:=by obtain⟨oc,od,kV,doc,pm,an,cdv,ct,osl,rfl,lk,hcd⟩:=F.ex;exact .all (h kV doc pm an cdv ct)
theorem FunD.binds1(F:FunD K x qual st f fd dV)(hd:z2w K dV 1){n:Nat}(h:z20 x qual st ps n)(hn:n<=ps.length):Binds K fd ps (List.replicate (ps.length-n) Value.none):=by obtain⟨oc,od,kV,doc,pm,an,cdv,ct,osl,rfl,lk,hcd⟩:=F.ex;obtain⟨T,o,mm,rfl,hT,ho⟩:=hd;intro s us hK hl;obtain⟨kk,h1,h2⟩:=h T kV doc pm an cdv ct us (by rw[z4t,List.length_replicate]at hl;omega);exact BindsTo.of_defaults rfl (hK T o hT) ho h1 h2
theorem zi4:∀n:Nat,Vals (List.replicate n V.non) (List.replicate n Value.none)
 |0=>.nil
 |n+1=>.cons rfl (zi4 n)
theorem zm0{ρ H}:∀n:Nat,RepL K mg ρ H (List.replicate n D.non) (List.replicate n V.non)
 |0=>RepL.nil
 |n+1=>RepL.cons rfl (zm0 n)
theorem zvg:FnOk P w K mg base CX0 k f fd ps (spG K mg fun _ _=>none):=by
 have no:∀vs H Q E,¬ spG K mg (fun _ _=>none) vs H Q E:=fun vs H Q E h=>by obtain⟨_,_,_,_,_,_,_,h,_⟩:=h;cases h
 exact⟨fun vs H Q E h=>absurd h (no vs H Q E),fun A outer s H args us vs Q E _ _ _ _ h=>absurd h (no vs H Q E)⟩
theorem HasDef.cal(h:HasDef K mg x st 0)(S:FnScope N ps (zh st))(hb:zti x x st ps)(hbody:z03 P w K mg base N x st k b):Cal P w K mg base (k+1) x (z5 N.length ps.length b):=by obtain⟨f,fd,dV,F,hm,rfl⟩:=h.ex;exact⟨f,fd,ps,[],[],[],_,F.ok S fun cdv A outer s H E hr=>hbody f cdv A outer s H E hr,hm,F.kp,F.binds0 hb,.nil,fun _ _=>RepL.nil,fun args S r e=>by rw[z5q];exact e⟩
theorem HasDef.none0(h:HasDef K mg x st 0)(hb:zti x x st ps):Cal P w K mg base k x (fun _ _=>none):=by obtain⟨f,fd,dV,F,hm,rfl⟩:=h.ex;exact⟨f,fd,ps,[],[],[],_,zvg,hm,F.kp,F.binds0 hb,.nil,fun _ _=>RepL.nil,fun args S r e=>by cases e⟩
theorem HasMth.mth(h:HasMth K mg c m qual st)(S:FnScope N ps (zh st))(hb:zti m qual st ps)(hbody:z03 P w K mg base N qual st k b):Mth P w K mg base (k+1) c m (z5 N.length ps.length b):=by obtain⟨C,f,fd,F,hm,hc,hme⟩:=h.ex;exact⟨C,f,fd,ps,[],[],[],_,F.ok S fun cdv A outer s H E hr=>hbody f cdv A outer s H E hr,hm,hc,hme,F.binds0 hb,.nil,fun _ _=>RepL.nil,fun args S r e=>by rw[z5q];exact e⟩
theorem HasMk.mk1(h:HasMk K mg c qual st 1)(S:FnScope N ps (zh st))(hb:z20 "__init__" qual st ps ps.length)(hbody:z03 P w K mg base N qual st k b):Mak P w K mg base (k+1) c (z5 N.length ps.length b):=by obtain⟨C,f,fd,dV,F,hm,hme,hd⟩:=h.ex;have B:=F.binds1 hd hb (z4v _);rw[z9u]at B;exact⟨C,f,fd,ps,[],[],[],_,F.ok S fun cdv A outer s H E hr=>hbody f cdv A outer s H E hr,hm,hme,B,.nil,fun _ _=>RepL.nil,fun args S r e=>by rw[z5q];exact e⟩
theorem HasMk.mk1d(h:HasMk K mg c qual st 1)(S:FnScope N ps (zh st)){n:Nat}(hn:ps.length=n+1)(hb:z20 "__init__" qual st ps n)(hbody:z03 P w K mg base N qual st k b):Mak P w K mg base (k+1) c (zv5 1 (z5 N.length ps.length b)):=by obtain⟨C,f,fd,dV,F,hm,hme,hd⟩:=h.ex;have B:=F.binds1 hd hb (by omega);rw[hn,z62]at B;exact⟨C,f,fd,ps,_,_,_,_,F.ok S fun cdv A outer s H E hr=>hbody f cdv A outer s H E hr,hm,hme,B,zi4 1,fun _ _=>zm0 1,fun args S r e=>e⟩
end
section
variable {K:zFr}{h:Heap}{mg:zMg} (X:K.In h) (G:h.Ns mainGlobals mg)
include X G
theorem has_def{x:Str}{st:Stmt}{f:Addr}{oc:Value}{od an:Option Addr}{osl:Array (Option Value)}{kV doc pm cdv ct:Value}(a:PySem.W.nsIn K mainGlobals x=some (some (.ref f)))
   (l:K.lookup f=some ⟨oc,od,.func (PySem.W.fnOf x x (zbj st) (jb st) (zh st) .none kV doc pm an cdv ct),osl⟩) (c:PySem.W.codeIn K cdv x=true) (k:PySem.W.keepIn K (.ref f)=true):HasDef K mg x st 0 :=
 ⟨f,_,.none,⟨⟨oc,od,kV,doc,pm,an,cdv,ct,osl,rfl,l,c⟩,k⟩,z8v X G a,rfl⟩
theorem has_mth{cn m qual:Str}{st:Stmt}{C f:Addr}{oc:Value}{od an:Option Addr}{osl:Array (Option Value)}{kV doc pm cdv ct:Value}(aC:PySem.W.nsIn K mainGlobals cn=some (some (.ref C)))(hc:Cls K C)
   (a:PySem.W.findIn K (.ref C) m=some (some (.ref f))) (i:PySem.W.isFn K (.ref f)=true)
   (l:K.lookup f=some ⟨oc,od,.func (PySem.W.fnOf m qual (zbj st) (jb st) (zh st) .none kV doc pm an cdv ct),osl⟩) (c:PySem.W.codeIn K cdv qual=true) (k:PySem.W.keepIn K (.ref f)=true):HasMth K mg cn m qual st :=
 ⟨C,f,_,⟨⟨oc,od,kV,doc,pm,an,cdv,ct,osl,rfl,l,c⟩,k⟩,z8v X G aC,hc,⟨a,i,k⟩⟩
theorem has_mk1{cn qual:Str}{st:Stmt}{C f T:Addr}{oc tc:Value}{od an td:Option Addr}{osl tsl:Array (Option Value)}{kV doc pm cdv ct:Value}{m:Nat}(aC:PySem.W.nsIn K mainGlobals cn=some (some (.ref C)))
   (mk:PySem.W.makesIn K C=true) (kc:PySem.W.keepIn K (.ref C)=true) (a:PySem.W.findIn K (.ref C) "__init__"=some (some (.ref f))) (i:PySem.W.isFn K (.ref f)=true)
   (l:K.lookup f=some ⟨oc,od,.func (PySem.W.fnOf "__init__" qual (zbj st) (jb st) (zh st) (.ref T) kV doc pm an cdv ct),osl⟩) (c:PySem.W.codeIn K cdv qual=true) (k:PySem.W.keepIn K (.ref f)=true)
   (t:K.lookup T=some ⟨tc,td,.seq #[Value.none] m,tsl⟩):HasMk K mg cn qual st 1 :=
 ⟨C,f,_,.ref T,⟨⟨oc,od,kV,doc,pm,an,cdv,ct,osl,rfl,l,c⟩,k⟩,z8v X G aC,⟨mk,a,i,kc⟩,T,_,m,rfl,t,rfl⟩
theorem has_cls{cn:Str}{C:Addr}(aC:PySem.W.nsIn K mainGlobals cn=some (some (.ref C)))(pg:PySem.W.plainGet K C Str.empty=true)(hd:PySem.W.hasDictIn K C=true)(po:PySem.W.plainOver K C=true)(sa:PySem.W.findIn K (.ref C) "__setattr__"=some (some (.builtin "object.__setattr__"))):Cls K C:=⟨pg,hd,po,sa⟩
theorem has_fld{cn n:Str}{C:Addr}(aC:PySem.W.nsIn K mainGlobals cn=some (some (.ref C)))(hc:Cls K C)(a:PySem.W.findIn K (.ref C) n=some none):Fld K mg cn n:=fun C' e=>by rw[z8v X G aC]at e;cases e;exact⟨hc,a⟩
theorem has_int{x:Str}{n:Int}{t:Tok}(a:PySem.W.nsIn K mainGlobals x=some (some (.int n t))):∃t,mg x=some (.int n t):=⟨t,z8v X G a⟩
end
theorem zjh{K mg ρ H}:∀ns:List Int,RepL K mg ρ H (ns.map D.int) (ns.map V.int)
 | []=>RepL.nil
 |_::ns=>RepL.cons rfl (zjh ns)
def zay(op op':D->D->Option D)(f g h:E):E:=fun ev S=>(f ev S).bind fun p=>(g ev p.2).bind fun q=>(op p.1 q.1).bind fun z=>match z with
 | .bl true=>(h ev q.2).bind fun r=>(op' q.1 r.1).map fun d=>(d,r.2)
 | .bl false=>some (.bl false,q.2)
 |_=>none
section
variable {X:Cx}
theorem zq4{o o':CmpOp}{R R':R2}{op op':D->D->Option D}{a b c:Expr}{f g h:E}{pos:Pos}(ho:OpR X (compareOp o) R)(ho':OpR X (compareOp o') R')(hs:ze7 X.K X.mg R fun _=>op)(hs':ze7 X.K X.mg R' fun _=>op')(ha:FE X a f)(hb:FE X b g)(hc:FE X c h)
   (hm:lastMarks [o,o'] [b,c]=false:=by with_unfolding_all rfl):FE X (.Compare a [o,o'] [b,c] pos) (zay op op' f g h) :=
 qz (zqe ho ho' ha hb hc hm) fun σ H Q h=>by
   obtain⟨ρ,ev,S,d,S',hE,hS,hf,k⟩:=h;obtain⟨⟨x,S1⟩,q1,hf⟩:=zv hf;obtain⟨⟨y,S2⟩,q2,hf⟩:=zv hf;obtain⟨z,q3,hf⟩:=zv hf;refine⟨ρ,ev,S,x,S1,hE,hS,q1,fun v ρ1 H1 E1 hS1 r1=>⟨ρ1,ev,S1,y,S2,hE.mono E1,hS1,q2,fun u ρ2 H2 E2 hS2 r2=>?_⟩⟩;refine hs ρ2 H2 _ v u x y z _ hS2 (r1.mono E2) r2 q3 fun w H3 E3 hS3 r3=>?_;dsimp only at hf;split at hf
   · obtain⟨⟨t,S4⟩,q4,hf⟩:=zv hf;obtain⟨dd,q5,hf⟩:=yz hf;cases hf;refine⟨true,r3,ρ2,ev,S2,t,S4,((hE.mono E1).mono E2).mono E3,hS3,q4,fun tv ρ4 H4 E4 hS4 r4=>?_⟩;exact hs' ρ4 H4 _ u tv y t _ _ hS4 ((r2.mono E3).mono E4) r4 q5 fun w' H5 E5 hS5 r5=>k w' ρ4 H5 ((((E1.trans E2).trans E3).trans E4).trans E5) hS5 r5
   · cases hf;exact⟨false,r3,k _ ρ2 H3 ((E1.trans E2).trans E3) hS3 rfl⟩
   · cases hf
end
theorem ls1{P:List Value->Prop}(h:∀a0,P [a0])(us:List Value)(hl:us.length=1):P us:=match us,hl with
 | [a0],_=>h a0
theorem ls2{P:List Value->Prop}(h:∀a0 a1,P [a0,a1])(us:List Value)(hl:us.length=2):P us:=match us,hl with
 | [a0,a1],_=>h a0 a1
theorem ls3{P:List Value->Prop}(h:∀a0 a1 a2,P [a0,a1,a2])(us:List Value)(hl:us.length=3):P us:=match us,hl with
 | [a0,a1,a2],_=>h a0 a1 a2
theorem ls4{P:List Value->Prop}(h:∀a0 a1 a2 a3,P [a0,a1,a2,a3])(us:List Value)(hl:us.length=4):P us:=match us,hl with
 | [a0,a1,a2,a3],_=>h a0 a1 a2 a3
def zkc(g:As):E:=fun ev S=>(g ev S).bind fun q=>match q.1 with
 | [.tup ds]=>some (.lst ds,q.2)
 | [.lst ds]=>some (.lst ds,q.2)
 |_=>none
def zf3(op op' op2:D->D->Option D)(f g h i:E):E:=fun ev S=>(f ev S).bind fun p=>(g ev p.2).bind fun q=>(op p.1 q.1).bind fun z=>match z with
 | .bl true=>(h ev q.2).bind fun r=>(op' q.1 r.1).bind fun z=>(match z with
   | .bl true=>(i ev r.2).bind fun t=>(op2 r.1 t.1).map fun d=>(d,t.2)
   | .bl false=>some (.bl false,r.2)
   |_=>none)
 | .bl false=>some (.bl false,q.2)
 |_=>none
section
variable {X:Cx}{e:Expr}{es:List Expr}{f:E}{g:As}{p pos:Pos}
theorem zq2(hm:X.mg "list"=none)(ha:FA X (e::es) g)(hg:Gl X "list":=by rfl)(he:starEach (e::es) X.env=(false,eval e X.env)::starEach es X.env:=by exact zy rfl)(hpl:(backTo pos (starEach es X.env)).any (·.1)=false:=by exact qx rfl):FE X (.Call (.Name "list" p) (e::es) [] pos) (zkc g) :=
 qz (zgu zhb hg hm boot_list ha (by decide) (by decide) he hpl) fun σ H Q h=>by
   obtain⟨ρ,ev,S,d,S',hE,hS,hf,k⟩:=h;obtain⟨⟨x,S1⟩,q1,hf⟩:=zv hf;refine⟨ρ,ev,S,x,S1,hE,hS,q1,fun vs ρ1 H1 E1 hS1 r1=>?_⟩;have fin:∀{us:List V}{ds:List D},RepL X.K X.mg ρ1 H1 ds us->(d,S')=(D.lst ds,S1)->∀l,H1 l=none->Q (.ref l) (upd H1 l (.lst us)):=by intro us ds r e l hl;cases e;exact k _ ρ1 _ (E1.trans (jl hS1 _ hl)) (hS1.new _ hl) (Rep.lst (s:=hS1) hl r)
   dsimp only at hf;split at hf
   · obtain⟨v,rfl,r⟩:=one r1;obtain⟨b,us,rfl,t,r⟩:=r.refT;exact⟨b,us,rfl,.inr t.sq,fin r (z53 hf).symm⟩
   · obtain⟨v,rfl,r⟩:=one r1;obtain⟨b,us,rfl,t,r⟩:=r.refL;exact⟨b,us,rfl,.inl t.sq,fin r (z53 hf).symm⟩
   · cases hf
theorem zto{R R':R2}{op op':D->D->Option D}{f g h:E}{σ:L2.St}{H:Hp}{Q:VK}(hs:ze7 X.K X.mg R fun _=>op)(hs':ze7 X.K X.mg R' fun _=>op')(h0:tE X.K X.mg (zay op op' f g h) σ H Q):zml R R' (tE X.K X.mg f) (tE X.K X.mg g) (tE X.K X.mg h) σ H Q:=by
 obtain⟨ρ,ev,S,d,S',hE,hS,hf,k⟩:=h0;obtain⟨⟨x,S1⟩,q1,hf⟩:=zv hf;obtain⟨⟨y,S2⟩,q2,hf⟩:=zv hf;obtain⟨z,q3,hf⟩:=zv hf;refine⟨ρ,ev,S,x,S1,hE,hS,q1,fun v ρ1 H1 E1 hS1 r1=>⟨ρ1,ev,S1,y,S2,hE.mono E1,hS1,q2,fun u ρ2 H2 E2 hS2 r2=>?_⟩⟩;refine hs ρ2 H2 _ v u x y z _ hS2 (r1.mono E2) r2 q3 fun w H3 E3 hS3 r3=>?_;dsimp only at hf;split at hf
 · obtain⟨⟨t,S4⟩,q4,hf⟩:=zv hf;obtain⟨dd,q5,hf⟩:=yz hf;cases hf;refine⟨true,r3,ρ2,ev,S2,t,S4,((hE.mono E1).mono E2).mono E3,hS3,q4,fun tv ρ4 H4 E4 hS4 r4=>?_⟩;exact hs' ρ4 H4 _ u tv y t _ _ hS4 ((r2.mono E3).mono E4) r4 q5 fun w' H5 E5 hS5 r5=>k w' ρ4 H5 ((((E1.trans E2).trans E3).trans E4).trans E5) hS5 r5
 · cases hf;exact⟨false,r3,k _ ρ2 H3 ((E1.trans E2).trans E3) hS3 rfl⟩
 · cases hf
theorem zvk{a b c:Expr}{f g h:E}{pos:Pos}(ha:FE X a f)(hb:FE X b g)(hc:FE X c h)(hm:lastMarks [.LtE,.Lt] [b,c]=false:=by with_unfolding_all rfl):FB X (.Compare a [.LtE,.Lt] [b,c] pos) (bE (zay zer zhq f g h)) :=
 zc9 (zp8 zk5 zqi ha hb hc hm) fun _ _ _ h=>ztl (fun _ h=>zto zao zao h) h
def ztq(r r' r2:R2)(ta tb tc td:TE):TE:=fun σ H Q=>ta σ H fun x H1=>tb σ H1 fun y H2=>r x y H2 fun z H3=>∃k,z=.bl k /\
 (if k=true then tc σ H3 fun w H4=>r' y w H4 fun z' H5=>∃k',z'=.bl k'/\(if k'=true then td σ H5 fun u H6=>r2 w u H6 Q else Q (.bl false) H5)else Q (.bl false) H3)
theorem zm9{a b c d:Expr}{ta tb tc td:TE}{op op' op2:CmpOp}{r r' r3:R2}(ho:OpR X (compareOp op) r)(ho':OpR X (compareOp op') r')(ho2:OpR X (compareOp op2) r3)(ha:PE X a ta)(hb:PE X b tb)(hc:PE X c tc)(hd:PE X d td)
   (hm:lastMarks [op,op',op2] [b,c,d]=false:=by with_unfolding_all rfl):PT X (.Compare a [op,op',op2] [b,c,d] pos) (zpn (ztq r r' r3 ta tb tc td)):=by
 intro pins s σ H Q I h;refine isTrue_chain (thn (ha pins s σ H _ I h) fun v s1 ⟨x,H1,I1,r1,q1⟩=>test_link (thn (hb pins s1 σ H1 _ I1 q1) fun u s2 ⟨y,H2,I2,r2,q2⟩=>
   thn (ho pins s2 σ H2 x y v u _ I2 r1 r2 q2) fun d s3 ⟨z,H3,I3,r3,k,e,q3⟩=>?_)) hm
 subst e;cases r3;refine z6c ?_;cases k with
 | false=>
   obtain⟨k',e',q'⟩:=q3;cases e';exact ite_ff ⟨H3,I3,q'⟩
 | true=>
   refine ite_tt (test_link (thn (hc pins s3 σ H3 _ I3 q3) fun w' s4 ⟨z',H4,I4,r4,q4⟩=>thn (ho' pins s4 σ H4 y z' u w' _ I4 r2 r4 q4) fun d' s5 ⟨z2,H5,I5,r5,k2,e2,q5⟩=>?_));subst e2;cases r5;refine z6c ?_;cases k2 with
   | false=>
     obtain⟨k',e',q'⟩:=q5;cases e';exact ite_ff ⟨H5,I5,q'⟩
   | true=>
     refine ite_tt (test_last (thn (hd pins s5 σ H5 _ I5 q5) fun w2 s6 ⟨z6,H6,I6,r6,q6⟩=>thn (ho2 pins s6 σ H6 z' z6 w' w2 _ I6 r4 r6 q6) fun d6 s7 ⟨z7,H7,I7,r7,k7,e7,q7⟩=>?_));subst e7;cases r7;exact z6c ⟨H7,I7,q7⟩
theorem zok{a b c d:Expr}{f g h i:E}{pos:Pos}(ha:FE X a f)(hb:FE X b g)(hc:FE X c h)(hd:FE X d i)(hm:lastMarks [.LtE,.LtE,.LtE] [b,c,d]=false:=by with_unfolding_all rfl):FB X (.Compare a [.LtE,.LtE,.LtE] [b,c,d] pos) (bE (zf3 zer zer zer f g h i)) :=
 zc9 (zm9 zk5 zk5 zk5 ha hb hc hd hm) fun σ H Q h=>ztl (fun Q h0=>by
   obtain⟨ρ,ev,S,d,S',hE,hS,hf,k⟩:=h0;obtain⟨⟨x,S1⟩,q1,hf⟩:=zv hf;obtain⟨⟨y,S2⟩,q2,hf⟩:=zv hf;obtain⟨z,q3,hf⟩:=zv hf;refine⟨ρ,ev,S,x,S1,hE,hS,q1,fun v ρ1 H1 E1 hS1 r1=>⟨ρ1,ev,S1,y,S2,hE.mono E1,hS1,q2,fun u ρ2 H2 E2 hS2 r2=>?_⟩⟩;refine zao ρ2 H2 _ v u x y z _ hS2 (r1.mono E2) r2 q3 fun w H3 E3 hS3 r3=>?_;dsimp only at hf;split at hf
   · obtain⟨⟨t,S4⟩,q4,hf⟩:=zv hf;obtain⟨dd,q5,hf⟩:=zv hf;refine⟨true,r3,ρ2,ev,S2,t,S4,((hE.mono E1).mono E2).mono E3,hS3,q4,fun tv ρ4 H4 E4 hS4 r4=>?_⟩;refine zao ρ4 H4 _ u tv y t _ _ hS4 ((r2.mono E3).mono E4) r4 q5 fun w' H5 E5 hS5 r5=>?_;split at hf
     · obtain⟨⟨t6,S6⟩,q6,hf⟩:=zv hf;obtain⟨d7,q7,hf⟩:=yz hf;cases hf;refine⟨true,r5,ρ4,ev,S4,t6,S6,((((hE.mono E1).mono E2).mono E3).mono E4).mono E5,hS5,q6,fun tv6 ρ6 H6 E6 hS6 r6=>?_⟩;exact zao ρ6 H6 _ tv tv6 t t6 _ _ hS6 ((r4.mono E5).mono E6) r6 q7 fun w7 H7 E7 hS7 r7=>k w7 ρ6 H7 ((((((E1.trans E2).trans E3).trans E4).trans E5).trans E6).trans E7) hS7 r7
     · cases hf;exact⟨false,r5,k _ ρ4 H5 ((((E1.trans E2).trans E3).trans E4).trans E5) hS5 rfl⟩
     · cases hf
   · cases hf;exact⟨false,r3,k _ ρ2 H3 ((E1.trans E2).trans E3) hS3 rfl⟩
   · cases hf) h
end
mutual
def bnd(n:Nat):D->Bool
 | .obj i=>decide (i<n)
 | .tup ds=>bndL n ds
 | .lst ds=>bndL n ds
 | .clo _ ds=>bndL n ds
 |_=>true
def bndL(n:Nat):List D->Bool
 | []=>true
 |d::ds=>bnd n d&&bndL n ds
end
def zpf(n:Nat):MO->Bool
 | .lst ds=>bndL n ds
 | .ins _ fs=>bndL n (fs.map (·.2))
 | .dct kvs=>bndL n (kvs.map (·.2))
 | .exc _=>true
 | .tab _ _=>true
def frz(g:G):G:=fun ds S=>(g ds S).bind fun r=>if(r.2.take S.length).all (zpf S.length)=true then (match r.1 with
 | .obj i=>if i<S.length then some (.obj i,r.2.take S.length)else (match r.2[i]? with
   |some (.lst us)=>if bndL S.length us=true then some (.lst us,r.2.take S.length)else none
   |_=>none)
 |d=>if bnd S.length d=true then some (d,r.2.take S.length)else none)else none
section
variable {K:zFr}{mg:zMg}{ρ ρ':List Addr}{H H':Hp}{S S1:Sto}{n:Nat}
theorem TupAt.cut{p:Addr}{vs:List V}(h:TupAt K ρ H p vs):TupAt K (ρ.take n) H p vs:=h.imp (fun⟨a,b⟩=>⟨fun z=>a (z5r z),b⟩) id
theorem LstAt.cut{p:Addr}{vs:List V}(h:LstAt K ρ H p vs):LstAt K (ρ.take n) H p vs:=h.imp (fun⟨a,b⟩=>⟨fun z=>a (z5r z),b⟩) id
theorem Cells.cut:∀{xs:List Str}{us:List V}{cl:zLA},Cells ρ H xs us cl->Cells (ρ.take n) H xs us cl
 | [],[],[],_=>trivial
 |x::xs,u::us,p::cl,h=>⟨h.1,fun z=>h.2.1 (z5r z),h.2.2.1,Cells.cut h.2.2.2⟩
 | [],[],_::_,h=>h.elim
 | [],_::_,_,h=>h.elim
 |_::_,[],_,h=>h.elim
 |_::_,_::_,[],h=>h.elim
mutual
theorem Rep.cut:∀{d:D}{v:V},bnd n d=true->Rep K mg ρ H d v->Rep K mg (ρ.take n) H d v
 | .non,_,_,h=>h
 | .bl _,_,_,h=>h
 | .int _,_,_,h=>h
 | .str _,_,_,h=>h
 | .fn _,_,_,h=>h
 | .ty _,_,_,h=>h
 | .tup ds,_,hb,h=>by unfold Rep at h ⊢;unfold bnd at hb;obtain⟨p,vs,e1,t,r⟩:=h;exact⟨p,vs,e1,t.cut,RepL.cut hb r⟩
 | .lst ds,_,hb,h=>by unfold Rep at h ⊢;unfold bnd at hb;obtain⟨p,vs,e1,t,r⟩:=h;exact⟨p,vs,e1,t.cut,RepL.cut hb r⟩
 | .obj i,_,hb,h=>by unfold Rep at h ⊢;unfold bnd at hb;obtain⟨a,e1,e2⟩:=h;exact⟨a,e1,by rw[z7w (z7h hb)];exact e2⟩
 | .lam t,_,_,h=>by unfold Rep at h ⊢;obtain⟨a,e1,n1,c,pm,ct,n2,h1,h2⟩:=h;exact⟨a,e1,fun z=>n1 (z5r z),c,pm,ct,fun z=>n2 (z5r z),h1,h2⟩
 | .clo t vs,_,hb,h=>by unfold Rep at h ⊢;unfold bnd at hb;obtain⟨a,us,e1,⟨n1,c,pm,ct,cl,n2,h1,h2,h3,h4⟩,r⟩:=h;exact⟨a,us,e1,⟨fun z=>n1 (z5r z),c,pm,ct,cl,fun z=>n2 (z5r z),h1,h2,h3,h4.cut⟩,RepL.cut hb r⟩
theorem RepL.cut:∀{ds:List D}{vs:List V},bndL n ds=true->RepL K mg ρ H ds vs->RepL K mg (ρ.take n) H ds vs
 | [],_,_,h=>h
 | d::ds,_,hb,h=>by unfold RepL at h ⊢;unfold bndL at hb;obtain⟨v,r,e,h1,h2⟩:=h;obtain⟨b1,b2⟩:=Bool.and_eq_true_iff.mp hb;exact⟨v,r,e,Rep.cut b1 h1,RepL.cut b2 h2⟩
end
theorem MOk.cut{a:Addr}{m:MO}(hb:zpf n m=true)(h:MOk K mg ρ H a m):MOk K mg (ρ.take n) H a m:=by
 cases m with
 |lst ds=>obtain⟨vs,h1,h2⟩:=h;exact⟨vs,h1,h2.cut hb⟩
 |ins c fs=>obtain⟨C,dx,vs,h0,h1,h2,h3⟩:=h;exact⟨C,dx,vs,h0,h1,h2,h3.cut hb⟩
 |dct kvs=>obtain⟨vs,h1,h2,h3⟩:=h;exact⟨vs,h1,h2,h3.cut hb⟩
 |exc c=>exact h
 |tab x q=>obtain⟨h0,ps,h1,h2,h3⟩:=h;exact⟨h0,ps,h1,h2,fun pos cv z=>let⟨c,z1,z2,z3⟩:=h3 pos cv z;⟨c,z1,fun y=>z2 (z5r y),z3⟩⟩
theorem StOk.cut(hS:StOk K mg ρ H S)(hb:(S.take n).all (zpf n)=true):StOk K mg (ρ.take n) H (S.take n):=by
 refine⟨by rw[z49,z49,hS.len],hS.nd.sublist (z84 _ _),fun i m a e1 e2=>?_⟩;have hi:i<n:=by have:=(z42.mp e1).1;rw[z49]at this;omega
 have hm:m∈S.take n:=z5t e1;rw[z7w hi]at e1 e2;exact(hS.ob i m a e1 e2).cut (z55.mp hb m hm)
theorem Ext.cut(e:Ext ρ H ρ' H')(hn:ρ.length=n):Ext ρ H (ρ'.take n) H' :=
 ⟨fun i a h=>by rw[z7w (by rw[<-hn];exact(z42.mp h).1)];exact e.pre i a h,e.keep,fun b hb=>e.new b (z5r hb)⟩
theorem zy8{g:G}(vs:List V)(H:Hp)(Q:VK)(E:XK)(h:spG K mg (frz g) vs H Q E):spG K mg g vs H Q E:=by
 obtain⟨ρ,ds,S,d,S',hr,hS,hf,k⟩:=h;obtain⟨⟨d1,S1⟩,q1,hf⟩:=zv hf;refine⟨ρ,ds,S,d1,S1,hr,hS,q1,fun v ρ' H' E1 hS1 r1=>?_⟩;dsimp only at hf;split at hf
 · rename_i hb;have e0:=E1.cut hS.len;have s0:=hS1.cut hb;split at hf
   · rename_i i;split at hf
     · rename_i hi;cases hf;exact k v _ H' e0 s0 (r1.cut (by unfold bnd;exact z5w hi))
     · rename_i hi;split at hf
       · rename_i us eu;split at hf
         · rename_i hu;cases hf;unfold Rep at r1;obtain⟨a,rfl,ea⟩:=r1;obtain⟨ws,m1,m2⟩:=hS1.ob i _ a eu ea;refine k _ _ H' e0 s0 ?_;unfold Rep;refine⟨a,ws,rfl,.inl ⟨fun z=>?_,.inl m1⟩,m2.cut hu⟩;obtain⟨j,hj,ej⟩:=z5p z;rw[z49]at hj;rw[z7i]at ej;have hj2:j<ρ'.length:=by omega
           have e3:ρ'[j]? = ρ'[i]?:=by rw[ea,z4x hj2,ej]
           have:=(List.getElem?_inj hj2 hS1.nd).mp e3;omega
         · cases hf
       · cases hf
   · split at hf
     · rename_i hd;cases hf;exact k v _ H' e0 s0 (r1.cut hd)
     · cases hf
 · cases hf
end
theorem Cal.frz{P:Program}{w:World}{K:zFr}{mg:zMg}{base:Heap}{k:Nat}{x:Str}{g:G}(c:Cal P w K mg base k x g):Cal P w K mg base k x (frz g):=by obtain⟨f,fd,ps,ds,dvs,dds,gg,FF,hm,hk,hb,hd,hdd,hg⟩:=c.ex;refine⟨f,fd,ps,ds,dvs,dds,_root_.F.frz gg,FnOk.imp FF zy8,hm,hk,hb,hd,hdd,fun args S r e=>?_⟩;obtain⟨r0,q,e⟩:=zv e;show(gg (args++dds) S).bind _=_;rw[hg args S r0 q];exact e
end F
namespace F
open PySem L2 PySem.Spec PyProof.Rows
def zch(c:B)(g:E)(fr:Ev):List D->Sto->Option (List D×Sto)
 | [],S=>some ([],S)
 |d::ds,S=>(c (some d::fr) S).bind fun p=>if p.1=true then (g (some d::fr) p.2).bind fun q=>(zch c g fr ds q.2).bind fun r=>some (q.1::r.1,r.2)else zch c g fr ds p.2
def zed:B:=fun _ S=>some (true,S)
inductive FT (X:Cx):List Expr->B->Prop
 |nil:FT X [] zed
 |one {e:Expr}{u:B}:FB X e u->FT X [e] u
section
variable {X:Cx}{pins:zAO}{σ:L2.St}{H:Hp}{s:Shared}{scope:Scope}{x:Str}{N':List Str}{fr:List Nat}
theorem zy4{ifs:List Expr}{c:B}(h:FT X ifs c){Q:Bool->Hp->Prop}(I:Inv X pins σ H s)(t:tB X.K X.mg c σ H Q) :
   wpAny (model X.prog X.w) X.A (forIn ifs true fun c r=>if r=true then do let ok <-isTrue c X.env (eval c X.env);pure (ForInStep.yield ok)else pure (ForInStep.yield r)) (TP X pins σ Q) X.xe s:=by
 cases h with
 | nil=>
   obtain⟨ρ,ev,S,b,S',hE,hS,hf,k⟩:=t;cases hf;exact wpAny_tests_nil ⟨H,I,k ρ H (Ext.refl _ _) hS⟩
 |one h=>exact wpAny_tests_one (h pins s σ H Q I t)
end
section
variable {K:zFr}{mg:zMg}{ρ:List Addr}{H:Hp}{S:Sto}
variable {X:Cx}{a b e o i:Expr}{f g h:E}{pos:Pos}
theorem RepL.dropLast{ds:List D}{vs:List V}(r:RepL K mg ρ H ds vs):RepL K mg ρ H ds.dropLast vs.dropLast:=by rw[List.dropLast_eq_take,List.dropLast_eq_take,<-r.length];exact r.take _
end
structure Fly (h₀ h:Heap) (H:Hp) (a C:Addr):Prop where
 new:h₀.get? a=none
 un:H a=none
 tr:∃oe vs T oT ts,h.get? a=some oe/\oe.cls=.ref C/\oe.data=.fields vs/\vs[1]? = some (.ref T)/\h₀.get? T=none/\H T=none/\T≠a/\h.get? T=some oT/\oT.data=.fields ts/\ts[3]? = some .none
theorem zbg{h base:Heap}{xs:List Addr}:∀{l:List Env},h.FunFrames base l->(∀b∈frs l,b∈xs)->h.FunFrames (PySem.W.hideAll h xs) l
 | [],_,_=>trivial
 | env::l,⟨hk,⟨L,o,hf,hn,ho,hd⟩,hr⟩,hx=>by
   refine⟨hk,⟨L,o,hf,z7u xs (hx L ?_),ho,hd⟩,zbg hr fun b hb=>hx b ?_⟩
   · unfold frs;rw[List.filterMap_cons,hf];exact z5c ..
   · unfold frs at hb ⊢;rw[List.filterMap_cons,hf];exact z40 _ hb
structure Lft (fs:List Addr) (h₀:Heap) (H:Hp) (a C:Addr) (h h':Heap):Prop where
 keep:∀b o,h.get? b=some o->b∉fs->(∃o',h₀.get? b=some o')\/(∃u,H b=some u)->h'.get? b=some o
 slot:∀b o,h.get? b=some o->b∈fs->∃sl,h'.get? b=some { o with slots:=sl }
section
variable {M:Model}{A:Around}{E:zVP}{s:Shared}
theorem zet{base h₀:Heap}{H:Hp}{env:Env}{outer:List Env}{L a C:Addr}{Q:Unit->Shared->Prop}(hfr:A.frames=some (env::outer))(hl:s.heap.FunFrames base (env::outer))(hf:env.frame=some L)(fl:Fly h₀ s.heap H a C)
   (hH:∀b u,H b=some u->∃o,s.heap.get? b=some o) (h0:∀b o,h₀.get? b=some o->∃o',s.heap.get? b=some o')
   (h:∀h',Fly h₀ h' H a C->Lft (frs (env::outer)) h₀ H a C s.heap h'->h'.FunFrames base (env::outer)->Q () { s with heap:=h' }):wpAny M A (leaving env (.ref a)) Q E s:=by
 obtain⟨oe,vs,T,oT,ts,he,hc,hd,h1,hT0,hTH,hTa,hT,hdT,h3⟩:=fl.tr;generalize hxs:frs (env::outer)++[a,T]=xs;have hfx:∀b∈frs (env::outer),b∈xs:=fun b hb=>by rw[<-hxs];exact z6a _ hb
 have hax:a∈xs:=by rw[<-hxs];simp
 have hTx:T∈xs:=by rw[<-hxs];simp
 refine wpAny_leaving_next (base:=PySem.W.hideAll s.heap xs) (cls:=.ref C) hfr (zbg hl hfx) hf ⟨oe,vs,T,oT,ts,he,hc,hd,h1,z7u xs hTx,hTa,hT,hdT,h3⟩ (fun b o e=>z9s xs e) (z7u xs hax) fun h' hL=>?_;obtain⟨k1,k2,k3,k4⟩:=hL;obtain⟨oe',vs',T',oT',ts',he',hc',hd',h1',hT',hTa',hT2,hdT',h3'⟩:=k3;have hTf:T'∉frs (env::outer):=fun z=>by obtain⟨_,o,ho,hnf⟩:=k2.mem z;rw[hT2]at ho;cases ho;exact hnf _ hdT'
 have hTn:s.heap.get? T'=none\/T'=T:=by
   cases q:s.heap.get? T' with
   |none=>exact .inl rfl
   | some o=>
     by_cases z:T'∈xs
     · rw[<-hxs]at z;rcases z5k.mp z with z | z
       · exact absurd z hTf
       · simp at z;exact .inr (z.resolve_left hTa')
     · rw[z71 xs q z]at hT';cases hT'
 refine h h' ⟨fl.new,fl.un,oe',vs',T',oT',ts',he',hc',hd',h1',?_,?_,hTa',hT2,hdT',h3'⟩ ⟨fun b o e nb hb=>?_,fun b o e hb=>?_⟩ (hl.of_keeps fun b o e hnf=>?_)
 · rcases hTn with z | rfl
   · cases q:h₀.get? T' with
     |none=>rfl
     |some o=>obtain⟨o',q'⟩:=h0 T' o q;rw[z]at q';cases q'
   · exact hT0
 · rcases hTn with z | rfl
   · cases q:H T' with
     |none=>rfl
     |some o=>obtain⟨o',q'⟩:=hH T' o q;rw[z]at q';cases q'
   · exact hTH
 · refine k1 b o (z71 xs e fun z=>?_);rw[<-hxs]at z;rcases z5k.mp z with z | z
   · exact nb z
   · simp at z;rcases z with rfl | rfl
     · rcases hb with⟨_,hb⟩ | ⟨u,hb⟩
       · rw[fl.new]at hb;cases hb
       · rw[fl.un]at hb;cases hb
     · rcases hb with⟨_,hb⟩ | ⟨u,hb⟩
       · rw[hT0]at hb;cases hb
       · rw[hTH]at hb;cases hb
 · obtain⟨_,o2,ho2,hnf⟩:=hl.mem hb;rw[e]at ho2;cases ho2;exact k4 b o e hnf
 · obtain⟨sl,q⟩:=k4 b o e hnf;exact⟨_,q,rfl⟩
theorem zdj{base h₀:Heap}{H:Hp}{env:Env}{outer:List Env}{L a C:Addr}{oe:Obj}{vs:Array Value}{Q:Unit->Shared->Prop}(hfr:A.frames=some (env::outer))(hl:s.heap.FunFrames base (env::outer))(hf:env.frame=some L)
   (he:s.heap.get? a=some oe) (hc:oe.cls=.ref C) (hd:oe.data=.fields vs) (h1:vs[1]? = some .none) (hn:h₀.get? a=none) (hu:H a=none)
   (hH:∀b u,H b=some u->∃o,s.heap.get? b=some o) (h0:∀b o,h₀.get? b=some o->∃o',s.heap.get? b=some o')
   (h:∀h',Fly h₀ h' H a C->Lft (frs (env::outer)) h₀ H a C s.heap h'->h'.FunFrames base (env::outer)->Q () { s with heap:=h' }):wpAny M A (leaving env (.ref a)) Q E s:=by
 generalize hxs:frs (env::outer)++[a]=xs;have hfx:∀b∈frs (env::outer),b∈xs:=fun b hb=>by rw[<-hxs];exact z6a _ hb
 have hax:a∈xs:=by rw[<-hxs];simp
 refine wpAny_leaving_first (base:=PySem.W.hideAll s.heap xs) hfr (zbg hl hfx) hf he (fun b o e=>z9s xs e) (z7u xs hax) hd h1 fun h' hL=>?_;obtain⟨k1,k2,k3,k4⟩:=hL;obtain⟨oe',vs',T',oT',ts',he',hc',hd',h1',hT',hTa',hT2,hdT',h3'⟩:=k3;have hTf:T'∉frs (env::outer):=fun z=>by obtain⟨_,o,ho,hnf⟩:=k2.mem z;rw[hT2]at ho;cases ho;exact hnf _ hdT'
 have hTn:s.heap.get? T'=none:=by
   cases q:s.heap.get? T' with
   |none=>rfl
   | some o=>
     by_cases z:T'∈xs
     · rw[<-hxs]at z;rcases z5k.mp z with z | z
       · exact absurd z hTf
       · exact absurd (z43.mp z) hTa'
     · rw[z71 xs q z]at hT';cases hT'
 refine h h' ⟨hn,hu,oe',vs',T',oT',ts',he',hc'.trans hc,hd',h1',?_,?_,hTa',hT2,hdT',h3'⟩ ⟨fun b o e nb hb=>?_,fun b o e hb=>?_⟩ (hl.of_keeps fun b o e hnf=>?_)
 · cases q:h₀.get? T' with
   |none=>rfl
   |some o=>obtain⟨o',q'⟩:=h0 T' o q;rw[hTn]at q';cases q'
 · cases q:H T' with
   |none=>rfl
   |some o=>obtain⟨o',q'⟩:=hH T' o q;rw[hTn]at q';cases q'
 · refine k1 b o (z71 xs e fun z=>?_);rw[<-hxs]at z;rcases z5k.mp z with z | z
   · exact nb z
   · rw[z43.mp z]at hb;rcases hb with⟨_,hb⟩ | ⟨u,hb⟩
     · rw[hn]at hb;cases hb
     · rw[hu]at hb;cases hb
 · obtain⟨_,o2,ho2,hnf⟩:=hl.mem hb;rw[e]at ho2;cases ho2;exact k4 b o e hnf
 · obtain⟨sl,q⟩:=k4 b o e hnf;exact⟨_,q,rfl⟩
end
def CX1(P:Program)(w:World):CXT:=fun outer H s E e s'=>
 ∃a C H',e=.ref a/\s'.os=s.os/\AllBare s'.gens/\Un (frs outer) [] H H' s.heap s'.heap/\HOk P w H' s'.heap/\Fly s.heap s'.heap H' a C/\E e (some C) H'
section
variable {X:Cx}{pins:zAO}{σ:L2.St}{H:Hp}{s:Shared}
theorem Fly.back{h₀ h₁ h:Heap}{a C:Addr}(f:Fly h₁ h H a C)(k:∀b o,h₀.get? b=some o->∃o',h₁.get? b=some o'):Fly h₀ h H a C:=by
 have n:∀b,h₁.get? b=none->h₀.get? b=none:=fun b e=>by
   cases q:h₀.get? b with
   |none=>rfl
   |some o=>obtain⟨o',q'⟩:=k b o q;rw[e]at q';cases q'
 obtain⟨oe,vs,T,oT,ts,r1,r2,r3,r4,r5,r6⟩:=f.tr;exact⟨n a f.new,f.un,oe,vs,T,oT,ts,r1,r2,r3,r4,n T r5,r6⟩
theorem zma{fs:List Addr}{H₀:Hp}{L a C:Addr}{h₀ h h':Heap}(u:Un fs [] H₀ H h₀ h)(l:Lft (L::fs) h₀ H a C h h')(hL:h₀.get? L=none):Un fs [] H₀ H h₀ h' where
 keep:=fun b o e n nb hx=>l.keep b o (u.keep b o e n nb hx) (fun z=>(z46.mp z).elim (fun z=>by rw[z,hL]at e;cases e) nb) (.inl ⟨_,e⟩)
 slot:=fun b o e n nb hx=>by obtain⟨sl,q⟩:=u.slot b o e n nb hx;obtain⟨sl',q'⟩:=l.slot b _ q (z40 _ nb);exact⟨sl',q'⟩
 free:=u.free
 there:=fun b o e hx=>by
   obtain⟨o',q⟩:=u.there b o e hx;by_cases z:b∈L::fs
   · obtain⟨sl,q'⟩:=l.slot b _ q z;exact⟨_,q'⟩
   · exact⟨_,l.keep b _ q z (.inl ⟨_,e⟩)⟩
 tups:=u.tups
 frzs:=u.frzs
 tbls:=u.tbls
theorem za4{P:Program}{w:World}{h:Heap}{a:Addr}{o:HO}(x:ObjOk P w H h a o):∃q,h.get? a=some q:=by
 cases o with
 |lst xs=>obtain⟨_,_,_,_,e⟩:=x;exact⟨_,e⟩
 |tup xs=>obtain⟨_,_,_,p⟩:=x;obtain⟨o,e,_⟩:=p;exact⟨_,e⟩
 |dK kvs=>obtain⟨_,_,_,_,o,_,_,e,_⟩:=x;exact⟨_,e⟩
 |dT kvs=>obtain⟨_,_,_,_,o,_,_,e,_⟩:=x;exact⟨_,e⟩
 |set S n=>obtain⟨o,_,_,_,e,_⟩:=x;exact⟨_,e⟩
 |ins C dx fs=>obtain⟨_,_,_,e,_⟩:=x;exact⟨_,e⟩
 |own y=>obtain⟨_,e⟩:=x;exact⟨_,e⟩
 |xd fs=>obtain⟨_,⟨_,_,_,e,_⟩,_⟩:=x;exact⟨_,e⟩
 |rng lo hi=>obtain⟨_,_,_,e⟩:=x;exact⟨_,e⟩
 |frz ob u=>obtain⟨e,_⟩:=x;exact⟨_,e⟩
 |tbl ps=>exact⟨_,(show h.get? a=some _ from x)⟩
 |met f y=>exact⟨_,(show h.get? a=some _ from x)⟩
 |ext φ=>obtain⟨_,⟨_,e⟩,_⟩:=x;exact⟨_,e⟩
theorem zbw{P:Program}{w:World}{fs:List Addr}{a C:Addr}{h₀ h h':Heap}(ok:HOk P w H h)(l:Lft fs h₀ H a C h h')(hf:∀b∈fs,H b=none):HOk P w H h':=fun b u e=>
 (ok b u e).stay (fun c v hc r=>by
   have ht:∃z,H c=some z:=by
     rcases hc with rfl | hc
     · exact⟨_,e⟩
     · exact⟨_,hc⟩
   obtain⟨z,hz⟩:=ht;exact l.keep c v r (fun m=>by rw[hf c m]at hz;cases hz) (.inr ⟨z,hz⟩)) (fun c r=>r) fun c xs r=>r
theorem ztj{P:Program}{w:World}{K:zFr}{mg:zMg}{base:Heap}{N:List Str}{qual:Str}{scope:Scope}{f:Addr}{cd:Value}{A:Around}{outer:List Env}{s₀:Shared}{H₀:Hp}{E:XK}{a C:Addr}
   (I:Inv (zbp (CX1 P w) P w K mg base N qual scope f cd A outer s₀ H₀ E) pins σ H s) (fl:Fly s₀.heap s.heap H a C) (hE:E (.ref a) (some C) H):(zbp (CX1 P w) P w K mg base N qual scope f cd A outer s₀ H₀ E).xe (.ref a) s:=by
 have hfs:∀b∈frs (envOfC qual scope s₀.heap.objs.size f cd::outer),H b=none:=I.stkFree;refine zet (base:=base) (h₀:=s₀.heap) (H:=H) (L:=s₀.heap.objs.size) I.ok.frames I.stack rfl fl (fun b u e=>za4 (I.hok b u e)) (fun b o e=>I.base.there b o e (by show b∉([]:List Addr);simp)) fun h' f1 l1 _=>?_;have l2:Lft (s₀.heap.objs.size::frs outer) s₀.heap H a C s.heap h':=l1;exact⟨a,C,H,rfl,I.os,I.bare,zma I.base l2 (z7b (z4v _)),zbw I.hok l1 hfs,f1,hE⟩
theorem zph{P:Program}{w:World}{K:zFr}{mg:zMg}{base:Heap}{N:List Str}{qual:Str}{scope:Scope}{f:Addr}{cd:Value}{A:Around}{outer:List Env}{s₀:Shared}{H₀:Hp}{E:XK}{a C:Addr}{h₁:Heap}{args:List Value}
   (I:Inv (zbp (CX1 P w) P w K mg base N qual scope f cd A outer s₀ H₀ E) pins σ H s) (mk:Heap.MadeExcOf s.heap h₁ a (.ref C) args) (hE:E (.ref a) (some C) H):(zbp (CX1 P w) P w K mg base N qual scope f cd A outer s₀ H₀ E).xe (.ref a) { s with heap:=h₁ }:=by
 have I1:Inv (zbp (CX1 P w) P w K mg base N qual scope f cd A outer s₀ H₀ E) pins σ H { s with heap:=h₁ }:=I.kept (t':=s.toks) mk.keeps;obtain⟨t,he,_⟩:=mk.there;have hu:H a=none:=by
   cases q:H a with
   |none=>rfl
   |some u=>obtain⟨o,z⟩:=za4 (I.hok a u q);rw[mk.new]at z;cases z
 have hn:s₀.heap.get? a=none:=by
   cases q:s₀.heap.get? a with
   |none=>rfl
   |some o=>obtain⟨o',z⟩:=I.base.there a o q (by show a∉([]:List Addr);simp);rw[mk.new]at z;cases z
 have hfs:∀b∈frs (envOfC qual scope s₀.heap.objs.size f cd::outer),H b=none:=I1.stkFree;refine zdj (base:=base) (h₀:=s₀.heap) (H:=H) (L:=s₀.heap.objs.size) I1.ok.frames I1.stack rfl he rfl rfl rfl hn hu (fun b u e=>za4 (I1.hok b u e)) (fun b o e=>I1.base.there b o e (by show b∉([]:List Addr);simp)) fun h' f1 l1 _=>?_;have l2:Lft (s₀.heap.objs.size::frs outer) s₀.heap H a C h₁ h':=l1;exact⟨a,C,H,rfl,I1.os,I1.bare,zma I1.base l2 (z7b (z4v _)),zbw I1.hok l1 hfs,f1,hE⟩
theorem z1s{P:Program}{w:World}{K:zFr}{mg:zMg}{base:Heap}{N:List Str}{qual:Str}{scope:Scope}{f:Addr}{cd:Value}{A:Around}{outer:List Env}{s₀:Shared}{H₀:Hp}{E:XK} :
   zeb (CX1 P w) (zbp (CX1 P w) P w K mg base N qual scope f cd A outer s₀ H₀ E) E:=fun pins σ H s e s' I h=>by
 obtain⟨a,C,H',rfl,os,bare,un,hok,fl,hE⟩:=h;have I1:Inv (zbp (CX1 P w) P w K mg base N qual scope f cd A outer s₀ H₀ E) pins σ H' s':=I.call' os un hok bare fun b hb=>absurd hb (by simp);exact ztj I1 (fl.back fun b o e=>I.base.there b o e (by show b∉([]:List Addr);simp)) hE
end
abbrev R:=Ev->Sto->Option (Str×Sto)
def zw8(c:C)(r:R):R:=fun ev S=>(c ev S).bind fun p=>match p.1 with
 | .nx e=>r e p.2
 |_=>none
def rIf(u:B)(a b:R):R:=fun ev S=>(u ev S).bind fun p=>if p.1=true then a ev p.2 else b ev p.2
def zw9:R:=fun _ _=>none
section
variable (K:zFr) (mg:zMg)
def tR(r:R)(σ:L2.St)(H:Hp)(E:XK):Prop:=∃ρ ev S c S',EnvR K mg ρ H ev σ/\StOk K mg ρ H S/\r ev S=some (c,S')/\∃C,mg c=some (.ref C)/\∀e ρ' H',Ext ρ H ρ' H'->StOk K mg ρ' H' S'->E e (some C) H'
end
structure XE (X:Cx) (pins:zAO) (σ:L2.St) (E:XK):Prop where
 first:∀{H s a C h₁ args},Inv X pins σ H s->Heap.MadeExcOf s.heap h₁ a (.ref C) args->E (.ref a) (some C) H->X.xe (.ref a) { s with heap:=h₁ }
 pass:∀{H s e s'},Inv X pins σ H s->CX1 X.prog X.w X.stack H s E e s'->X.xe e s'
def RS(X:Cx)(st:Stmt)(r:R):Prop:=∀(pins:zAO) (s:Shared) (σ:L2.St) (H:Hp) (E:XK) (Q:Flow->Shared->Prop),XE X pins σ E->Inv X pins σ H s->tR X.K X.mg r σ H E->wpAny (model X.prog X.w) X.A (exec st X.env) Q X.xe s
def RSs(X:Cx)(sts:List Stmt)(r:R):Prop:=∀(pins:zAO) (s:Shared) (σ:L2.St) (H:Hp) (E:XK) (Q:Flow->Shared->Prop),(∀σ,XE X pins σ E)->Inv X pins σ H s->tR X.K X.mg r σ H E->wpAny (model X.prog X.w) X.A (execs sts X.env) Q X.xe s
def RTs(X:Cx)(sts:List Stmt)(r:R):Prop:=∀(pins:zAO) (s:Shared) (σ:L2.St) (H:Hp) (E:XK) (Q:Flow->Shared->Prop),XE X pins σ E->Inv X pins σ H s->tR X.K X.mg r σ H E->wpAny (model X.prog X.w) X.A (execs sts X.env) Q X.xe s
def RE(X:Cx)(e:Expr)(r:R):Prop:=∀(pins:zAO) (s:Shared) (σ:L2.St) (H:Hp) (E:XK) (Q:zVP),XE X pins σ E->Inv X pins σ H s->tR X.K X.mg r σ H E->wpAny (model X.prog X.w) X.A (eval e X.env) Q X.xe s
section
variable {X:Cx}{st:Stmt}{rest a b:List Stmt}{c:C}{u:B}{r r':R}{e:Expr}{es:List Expr}{pos p:Pos}
theorem zje(h:RS X st r):RSs X (st::rest) r:=fun pins s σ H E Q hx I t=>z7p (h pins s σ H E _ (hx σ) I t)
theorem zpv(h:RS X st r):RTs X (st::rest) r:=fun pins s σ H E Q hx I t=>z7p (h pins s σ H E _ hx I t)
theorem zpx(h1:FS X st c)(h2:RSs X rest r):RSs X (st::rest) (zw8 c r):=by
 intro pins s σ H E Q hx I t;obtain⟨ρ,ev,S,nm,S',hE,hS,hf,C,hC,k⟩:=t;obtain⟨⟨o,S1⟩,q1,hf⟩:=zv hf;cases o with
 | nx e1=>
   refine z7p (thn (h1 pins s σ H { nx:=fun σ' H'=>tR X.K X.mg r σ' H' E,rt:=fun _ _=>False,bk:=fun _ _=>False,ct:=fun _ _=>False } I ⟨ρ,ev,S,.nx e1,S1,hE,hS,q1,fun σ' ρ' H' E1 hS1 hE1=>⟨ρ',e1,S1,nm,S',hE1,hS1,hf,C,hC,fun e ρ2 H2 E2 hS2=>k e ρ2 H2 (E1.trans E2) hS2⟩⟩) fun f s1 q=>?_);cases f with
   | next=>
     obtain⟨σ',H',I',q⟩:=q;exact h2 pins s1 σ' H' E Q hx I' q
   |ret v=>obtain⟨_,_,_,_,_,q⟩:=q;exact q.elim
   |brk=>obtain⟨_,_,_,q⟩:=q;exact q.elim
   |cont=>obtain⟨_,_,_,q⟩:=q;exact q.elim
 |_=>cases hf
theorem zw3{cc:Expr}(hc:FB X cc u)(ha:RSs X a r)(hb:RSs X b r'):RSs X (.If cc a b pos::rest) (rIf u r r'):=by
 intro pins s σ H E Q hx I t;obtain⟨ρ,ev,S,nm,S',hE,hS,hf,C,hC,k⟩:=t;obtain⟨⟨d,S1⟩,q1,hf⟩:=zv hf;refine z7p (wpAny_If (thn (hc pins s σ H (fun d' H1=>d'=d/\∃ρ1,Ext ρ H ρ1 H1/\StOk X.K X.mg ρ1 H1 S1) I ⟨ρ,ev,S,d,S1,hE,hS,q1,fun ρ1 H1 E1 hS1=>⟨rfl,ρ1,E1,hS1⟩⟩) fun d' s1 ⟨H1,I1,ed,ρ1,E1,hS1⟩=>?_));subst ed;cases d' with
 |true=>exact ha pins s1 σ H1 E _ hx I1 ⟨ρ1,ev,S1,nm,S',hE.mono E1,hS1,hf,C,hC,fun e ρ2 H2 E2 hS2=>k e ρ2 H2 (E1.trans E2) hS2⟩
 |false=>exact hb pins s1 σ H1 E _ hx I1 ⟨ρ1,ev,S1,nm,S',hE.mono E1,hS1,hf,C,hC,fun e ρ2 H2 E2 hS2=>k e ρ2 H2 (E1.trans E2) hS2⟩
theorem zpw:RSs X rest zw9:=fun pins s σ H E Q hx I t=>by obtain⟨ρ,ev,S,nm,S',hE,hS,hf,_⟩:=t;cases hf
theorem zw4(he:RE X e r):RS X (.Return (some e) pos) r:=fun pins s σ H E Q hx I t=>z92 (he pins s σ H E _ hx I t)
theorem zua(he:RE X e r)(hs:swapsWith e none pos.line X.env=pure false:=by rfl):RS X (.Expr e pos) r:=fun pins s σ H E Q hx I t=>wpAny_Expr_any (he pins s σ H E _ hx I t) I.quiet hs
end
abbrev GR:=List D->Sto->Option (Str×Sto)
def spR(K:zFr)(mg:zMg)(rr:GR):Sp:=fun vs H _ E=>∃ρ ds S c S',RepL K mg ρ H ds vs/\StOk K mg ρ H S/\rr ds S=some (c,S')/\∃C,mg c=some (.ref C)/\∀e ρ' H',Ext ρ H ρ' H'->StOk K mg ρ' H' S'->E e (some C) H'
structure RCal (P:Program) (w:World) (K:zFr) (mg:zMg) (base:Heap) (k:Nat) (x:Str) (g:GR):Prop where
 ex:∃(f:Addr) (fd:FuncData) (ps:List Str) (ds:List Value) (dvs:List V) (dds:List D) (gg:GR),FnOk P w K mg base (CX1 P w) k f fd ps (spR K mg gg)/\mg x=some (.ref f)/\PySem.W.keepIn K (.ref f)=true /\
   Binds K fd ps ds/\Vals dvs ds/\(∀ρ H,RepL K mg ρ H dds dvs)/\∀args S r,g args S=some r->gg (args++dds) S=some r
def zm4(g:GR)(a:As):R:=fun ev S=>(a ev S).bind fun q=>g q.1 q.2
theorem z35{X:Cx}{CX:CXT}{k:Nat}{f:Addr}{fd:FuncData}{ps:List Str}{sp:Sp}{dvs:List V}{ds:List Value}{E:XK}{pins:zAO}{σ:L2.St}{H:Hp}{s:Shared}{Q:VK}{us:List Value}{vs:List V}
   (F:FnOk X.prog X.w X.K X.mg X.base CX k f fd ps sp) (hr:Room k X.A) (hb:Binds X.K fd ps ds) (hd:Vals dvs ds) (I:Inv X pins σ H s) (hx:∀e s',CX X.stack H s E e s'->X.xe e s') (r:Vals vs us) (h:sp (vs++dvs) H Q E) :
   wpAny (model X.prog X.w) X.A (call (.ref f) us) (EP X pins σ Q) X.xe s:=by
 have r2:=r.append hd;have hl:(us++ds).length=ps.length:=r2.length.symm.trans (F.len _ _ _ _ h);refine z9i (z8p (F.run X.A X.stack s H ⟨us,[]⟩ _ _ Q E hr I.env0 (hb s us I.kIn hl) r2 h) fun r s' hq=>?_)
 match r,hq with
 | .error e,hq=>exact hx e s' hq
 | .ok (.ret u),hq=>exact I.after hq
 | .ok .next,hq=>exact hq.elim
 | .ok .brk,hq=>exact hq.elim
 | .ok .cont,hq=>exact hq.elim
section
variable {X:Cx}{e:Expr}{es:List Expr}{pos p:Pos}{k:Nat}{x:Str}{g:GR}{a:As}
theorem zm1(cal:RCal X.prog X.w X.K X.mg X.base k x g)(hr:Room k X.A)(ha:FA X (e::es) a)(hg:Gl X x:=by rfl)(hdb:(x==("__debug__":Str))=false:=by decide)
   (he:starEach (e::es) X.env=(false,eval e X.env)::starEach es X.env:=by exact zy rfl) (hpl:(backTo pos (starEach es X.env)).any (·.1)=false:=by exact qx rfl) :
   RE X (.Call (.Name x p) (e::es) [] pos) (zm4 g a):=by
 obtain⟨f,fd,ps,ds,dvs,dds,gg,F,hm,hk,hb,hd,hdd,hgg⟩:=cal.ex;intro pins s σ H E Q hx I t;obtain⟨ρ,ev,S,nm,S',hE,hS,hf,C,hC,kk⟩:=t;obtain⟨⟨ws,S1⟩,q1,hf⟩:=zv hf;have h:=ha pos pins s σ H (fun vs H1=>spR X.K X.mg gg (vs++dvs) H1 (fun _ _=>False) E) I ⟨ρ,ev,S,ws,S1,hE,hS,q1,fun vs ρ1 H1 E1 hS1 r1=>⟨ρ1,ws++dds,S1,nm,S',r1.append (hdd ρ1 H1),hS1,hgg ws S1 _ hf,C,hC,fun e ρ2 H2 E2 hS2=>kk e ρ2 H2 (E1.trans E2) hS2⟩⟩;refine z6n (zas I hg hm ?_ hdb);refine z7r (h₀:=X.base) I.ok.mod.kin hk (thn h fun us s1 ⟨vs,H1,I1,r,q⟩=>⟨I1.kIn,?_⟩) he hpl;refine thn (z35 F hr hb hd I1 (fun e s' hc=>hx.pass I1 hc) r q) fun v s1 q=>?_;obtain⟨_,_,_,_,q⟩:=q;exact q.elim
end
def zhk(N n:Nat)(r:R):GR:=fun ds S=>if ds.length=n then r (ds.map some++List.replicate (N-ds.length) none) S else none
theorem z04{P:Program}{w:World}{K:zFr}{mg:zMg}{base:Heap}{N:List Str}{qual:Str}{scope:Scope}{f:Addr}{cd:Value}{A:Around}{outer:List Env}{s₀:Shared}{H₀:Hp}{E:XK} :
   ∀pins σ,XE (zbp (CX1 P w) P w K mg base N qual scope f cd A outer s₀ H₀ E) pins σ E:=fun _ _=>⟨fun I mk hE=>zph I mk hE,fun I h=>z1s _ _ _ _ _ _ I h⟩
theorem FunD.rok{P:Program}{w:World}{K:zFr}{mg:zMg}{base:Heap}{x qual:Str}{st:Stmt}{f:Addr}{fd:FuncData}{dV:Value}{N ps:List Str}{k:Nat}{r:R}(F:FunD K x qual st f fd dV)(S:FnScope N ps (zh st))
   (hbody:∀(cdv:Value) (A:Around) (outer:List Env) (s:Shared) (H:Hp) (E:XK),Room k (A.deeper (envOfC qual (zh st) s.heap.objs.size f cdv)) ->
     RSs (zbp (CX1 P w) P w K mg base N qual (zh st) f cdv A outer s H E) (jb st) r):FnOk P w K mg base (CX1 P w) (k+1) f fd ps (spR K mg (zhk N.length ps.length r)):=by
 obtain⟨oc,od,kV,doc,pm,an,cdv,ct,osl,rfl,lk,hcd⟩:=F.ex;refine zqy lk hcd S (fun vs H Q E h=>?_) fun A outer s H vs Q E hr hsp=>?_
 · obtain⟨ρ,ds,S,c,S',r1,hS,hf,k⟩:=h;unfold zhk at hf;split at hf
   · rename_i hl;rw[<-r1.length];exact hl
   · cases hf
 · refine⟨fun _ σ' H'=>tR K mg r σ' H' E,fun pins s1 σ1 H1 D I t=>hbody cdv A outer s H E hr pins s1 σ1 H1 E _ (z04 pins) I t,?_⟩;obtain⟨ρ,ds,S,c,S',r1,hS,hf,kk⟩:=hsp;unfold zhk at hf;split at hf
   · rename_i hl;have hs:=EnvR.start (N:=N) r1;exact⟨ρ,_,S,c,S',hs,hS,hf,kk⟩
   · cases hf
def ExcCls(K:zFr)(mg:zMg)(c:Str):Prop :=
 ∃(C N:Addr) (nm q:Str) (bs bm bmB:List Value) (hdct:Bool) (sn:List Str) (sub:List Value) (ab:Bool) (col:Option Bool) (dd:Option Addr) (k0 k1 k2 k3 k5:Option Value) (B newId initId:String) (mN:zMg),
   mg c=some (.ref C)/\ExcBaseFacts B newId initId bmB/\bm.contains (.type "BaseException")=true/\mN "__init__"=none /\
   ∀h:Heap,K.In h->h.get? C=some (excClassObj nm q C N bs bm hdct sn sub ab col dd k0 k1 k2 k3 k5 newId)/\h.Ns N mN/\OwnTail h bmB bm
def zjj(c:Str)(a:As):R:=fun ev S=>(a ev S).bind fun q=>if q.1.length<=sizeLine then some (c,q.2)else none
section
variable {X:Cx}{e:Expr}{es:List Expr}{a:As}{c:Str}{np cpos pos:Pos}
theorem zpy(hc:ExcCls X.K X.mg c)(ha:FA X (e::es) a)(hg:Gl X c:=by rfl)(he:starEach (e::es) X.env=(false,eval e X.env)::starEach es X.env:=by exact zy rfl)(hcm:X.calm=true:=by rfl)(hdb:(c==("__debug__":Str))=false:=by decide)(hpl:(backTo cpos (starEach (e::es) X.env)).any (·.1)=false:=by exact qx rfl) :
   RS X (.Raise (some (.Call (.Name c np) (e::es) [] cpos)) none pos) (zjj c a):=by
 obtain⟨C,N,nm,q,bs,bm,bmB,hdct,sn,sub,ab,col,dd,k0,k1,k2,k3,k5,B,newId,initId,mN,hm,F,hb,hi,hk⟩:=hc;intro pins s σ H E Q hx I t;obtain⟨ρ,ev,S,nm',S',hE,hS,hf,CC,hC,kk⟩:=t;obtain⟨⟨ws,S1⟩,q1,hf1⟩:=zv hf;dsimp only at hf1;split at hf1
 · rename_i hl;cases hf1;rw[hm]at hC;cases hC;refine wpAny_Raise_call_subT (nm:=nm) (q:=q) (N:=N) (bs:=bs) (hdct:=hdct) (sn:=sn) (sub:=sub) (ab:=ab) (col:=col) (dd:=dd) (k0:=k0) (k1:=k1) (k2:=k2) (k3:=k3) (k5:=k5) F hb (I.ok.hd hcm) hpl hi (zas I hg hm ⟨rfl,?_⟩ hdb);have hA:=ha cpos pins s σ H (fun vs H1=>vs.length<=sizeLine/\∃ρ1,Ext ρ H ρ1 H1/\StOk X.K X.mg ρ1 H1 S') I ⟨ρ,ev,S,ws,S',hE,hS,q1,fun vs ρ1 H1 E1 hS1 r1=>⟨by rw[<-r1.length];exact hl,ρ1,E1,hS1⟩⟩;rw[he]at hA ⊢;refine Calls.evalArgs_plain (thn hA fun us s2 ⟨vs,H2,I2,r2,lv,ρ1,E1,hS1⟩=>?_);obtain⟨z1,z2,z3⟩:=hk s2.heap I2.kIn;exact⟨rfl,by show us.length<=_;rw[<-r2.length];exact lv,z1,z2,z3,fun h' e mk=>hx.first I2 mk (kk _ ρ1 H2 E1 hS1)⟩
 · cases hf1
end
end F
namespace F
open PySem L2 PySem.Spec PySem.Calls PyProof.Rows PySem.W
section
variable {prog:Program}{w:World}{A:Around}{E:zVP}{s:Shared}{K:zFr}{x D:Addr}
structure ExcIs (K:zFr) (D:Addr):Prop where
 ga:findIn K (.ref D) "__getattribute__"=some (some (.builtin "BaseException.__getattribute__"))
 gn:findIn K (.ref D) "__getattr__"=some none
 ha:findIn K (.ref D) "__class__"=some (some (.builtin "object.__class__"))
 hn:specialIn K (.builtin "object.__class__") "__get__"=some (some (.builtin "getset_descriptor.__get__"))
 htk:takesIn K (.builtin "object.__class__")=some true
 hm:mroIn K D (.type "object")=some true
 hb:mroIn K D (.type "BaseException")=some true
 cl:(clsIn K D).isSome=true
def OfCls(x D:Addr)(h:Heap):Prop:=∃o,h.get? x=some o/\o.cls=.ref D
theorem OfCls.type{M:Model}{h:Heap}(I:OfCls x D h):Looks M h (typeOf (.ref x)) (.ref D):=by obtain⟨o,h1,h2⟩:=I;have L:=(Looks.ld (M:=M) (part:=some headPart) h1).andThen (f:=fun o=>pure o.cls) (b:=o.cls) .now;rw[h2]at L;exact L
theorem zq7{M:Model}{h:Heap}(X:K.In h)(Z:ExcIs K D):Looks M h (Builtin.ObjectAttr.find (.ref x) (.ref D) "__class__") (.bind (.builtin "getset_descriptor.__get__") (.builtin "object.__class__")):=by refine(looks_findIn X Z.ha).andThen ?_;refine(show Looks M h (Builtin.ObjectAttr.getOf (some (.builtin "object.__class__"))) _ from looks_specialIn X Z.hn).andThen ?_;have L3:Looks M h (Builtin.ObjectAttr.dataDescriptor? (some (.builtin "object.__class__")) (some (.builtin "getset_descriptor.__get__"))) (some (.builtin "getset_descriptor.__get__",.builtin "object.__class__")):=(looks_takesIn X Z.htk).andThen .now;exact L3.andThen (Looks.tag .now)
theorem zvl{R:Result->Shared->Prop}{tp:Value}(X:K.In s.heap)(I:OfCls x D s.heap)(Z:ExcIs K D)(h:R (.ok (.ret (.ref D))) s) :
   codeAny (model prog w) A (.call (.builtin "getset_descriptor.__get__") ⟨[.builtin "object.__class__",.ref x,tp],[]⟩) R s:=by
 obtain⟨o,h1,h2⟩:=id I;obtain⟨hh,g,dr,t,os⟩:=s;have L0:=I.type (M:=model prog w);have L1:=looks_mroIn (M:=model prog w) X Z.hm;refine codeAny_call_builtin (KF.slot_gs.plain) (KF.entry_gs) (KF.slot_gs.check _ _ _ _ _ _ _ _ KF.type_class (KF.args_gs _ _ _) ?_);unfold Builtin.«getset_descriptor.__get__» Builtin.Getset_descriptor.descrGet;rw [dga_obj];refine z4u (z5e ?_);unfold Builtin.Getset_descriptor.descrGetter Builtin.Getset_descriptor.descrCheckInstance Builtin.Getset_descriptor.descrNameAndClass isInstance;simp only[KF.owner_class];repeat lk
 refine ⟨Code.quiet_builtin _ (by decide +kernel),codeAny_builtin (KF.entry_class) ?_⟩;unfold Builtin.«object.__class__» shownTypeOf;(repeat lk);exact h
theorem zom{tk:Tok}{Q:Fin->Shared->Prop}(X:K.In s.heap)(I:OfCls x D s.heap)(Z:ExcIs K D)(h:Q (.done (.ret (.ref D))) s) :
   wpAny (model prog w) A (Builtin.«object.__getattribute__» ⟨[.ref x,.str "__class__" tk],[]⟩) Q E s:=by
 obtain⟨hh,g,d,t,os⟩:=s;have L0:=I.type (M:=model prog w);have L1:=zq7 (M:=model prog w) (x:=x) X Z;unfold Builtin.«object.__getattribute__»;refine z4u (z5e (z4u (z5e (z4u (L0.at (z4u (L1.at ?_)))))));show wpAny _ _ (holding [.builtin "object.__class__"] (call (.builtin "getset_descriptor.__get__") [.builtin "object.__class__",.ref x,.ref D]) >>= ret) _ _ _;exact z4u (wpAny_holding (z9i (zvl X I Z (z5e h))))
theorem zoo{M:Model}{nameV:Value}{Q:Unit->Shared->Prop}(X:K.In s.heap)(I:OfCls x D s.heap)(Z:ExcIs K D)(hq:Q () s) :
   wpAny M A (checkBuiltinCall "BaseException.__getattribute__" ⟨[.ref x,nameV],[]⟩) Q E s:=by
 have hk:(builtinKind "BaseException.__getattribute__")=some .slot:=by decide +kernel
 have hsplit:(splitId "BaseException.__getattribute__")=some ("BaseException", "__getattribute__"):=by decide +kernel
 have ha:=PySem.F.args_bexc_ga (.ref x) nameV;have LI:Looks M s.heap (isInstance (.ref x) (.type "BaseException")) true:=(I.type (M:=M)).andThen (looks_mroIn (M:=M) X Z.hb);simp only[checkBuiltinCall,hk,hsplit];refine z4u (LI.at ?_)
 repeat (any_goals (first | assumption | wp_step))
theorem zon{Q:Option Value->Shared->Prop}(X:K.In s.heap)(I:OfCls x D s.heap)(Z:ExcIs K D)(h:Q (some (.ref D)) { s with toks:=s.toks+1 }) :
   wpAny (model prog w) A (getAttr? (.ref x) "__class__") Q E s:=by
 obtain⟨hh,g,d,t,os⟩:=s;have L0:=I.type (M:=model prog w);have L1:=looks_findIn (M:=model prog w) X Z.ga;have L2:=looks_findIn (M:=model prog w) X Z.gn;have f3:=z9m.ga.bind (.ref x);have hx2:(Value.builtin "BaseException.__getattribute__"==Value.builtin "object.__getattribute__")=false:=(by decide +kernel)
 unfold getAttr? getAttrBy? getAttrBy;refine z4u (wpAny_mkText (z4u (z9h (wpAny_holding (z4u (L0.at (z4u (L1.at (?_)))))))));show wpAny _ _ (if(true&&Value.builtin "BaseException.__getattribute__"==Value.builtin "object.__getattribute__")=true then _ else _) _ _ _;rw[hx2];simp only[Bool.and_false,z47,z6b];unfold getAttrByItsOwn hookBefore;show wpAny _ _ ((do let before <-typeLookup (.ref D) "__getattr__";_):Sem Value) _ _ _;refine z4u (L2.at ?_);refine z4u (z9h (wpAny_holding ?_));unfold callGetattribute boundAndCalled;simp only[z9x,z47,z6b,f3,pure_bind];refine z9i (codeAny_call_builtin z9m.ga.plain PySem.F.entry_bexc_ga (zoo X I Z (zom X I Z ?_)));exact z5e (z5e h)
theorem zjx(Z:ExcIs K D):KitX K (.ref x) (.ref D) (OfCls x D) where
 ty:=fun _ _ _ I=>I.type
 it:=fun M h X _=>by
   have z:=Z.cl;unfold clsIn at z;split at z
   · rename_i ho;intro A' Q' E' s' k q;exact z4u (z9y (k _ _ (X _ _ ho)) (z5e q))
   · cases z
 ne:=fun h tp dd its n sl X htp=>by
   have z:=Z.cl;refine z86.mpr fun q=>?_;obtain rfl:D=tp:=Value.ref.inj (z7q.mp q);unfold clsIn at z;split at z
   · rename_i ho;cases(X _ _ ho).symm.trans htp
   · cases z
 ca:=fun X I k=>zon X I Z k
end
theorem zey{α:Type}{q:α->Bool}:∀(l:List α) (i:Nat) (x:α),l[i]? = some x->q x=false->(l.eraseIdx i).find? q=l.find? q
 | [],_,_,h,_=>by simp at h
 | a::l,0,x,h,hq=>by simp at h;subst h;simp[List.find?_cons,hq]
 | a::l,i+1,x,h,hq=>by rw[List.eraseIdx_cons_succ,List.find?_cons,List.find?_cons,zey l i x (by simpa using h) hq]
theorem zqt{v:Value}{x y:Str}(h:v.isStr x=true)(n:y≠x):v.isStr y=false:=by
 cases v with
 | str z t=>
   have e:z=x:=by simpa [Value.isStr] using h
   subst e;simpa [Value.isStr] using fun e=>n e.symm
 |_=>cases h
section
variable {M:Model}{A:Around}{E:zVP}{s:Shared}
theorem zzw{a:Addr}{m:zMg}{name:Str}{u:Value}{Q:Bool->Shared->Prop}(hn:s.heap.Ns a m)(hu:m name=some u)
   (hQ:∀h' m',h'.Ns a m'->(∀y,y≠name->m' y=m y)->Heap.SameBut a s.heap h'->Q true { s with heap:=h' }):wpAny M A (nsDel a name) Q E s:=by
 obtain⟨o,es,ep,ho,hd,hk,hm⟩:=id hn;obtain⟨cl,d,dt,sl⟩:=o;subst hd;cases hi:es.findIdx? (·.key.isStr name) with
 | none=>
   have z:=hm name;rw[hu]at z;unfold nsFind at z;rw[findBy_of_findIdx?,hi]at z;cases z
 | some i=>
   have hq:es.any (·.key.isStr name)=true:=by obtain⟨hlt,hp,_⟩:=z8s.mp hi;exact Array.any_eq_true.mpr ⟨i,hlt,hp⟩
   have hhas:nsHas name ⟨cl,d,.dict es ep,sl⟩=pure true:=by rw[nsHas_eq];unfold nsHasByArray;simp only[hq,z6s]
   unfold nsDel;refine z4u (z9y ho ?_);rw[hhas];refine z4u (z5e (z4u (wpAny_updatePart ho (z5e ?_))));refine hQ _ (fun y=>nsFind (es.eraseIdxIfInBounds i) y) ⟨_,_,ep+1,z9b _ ho ?_,?_,hk.erase i,fun _=>rfl⟩ (fun y hy=>?_) (Heap.SameBut.update ..)
   · simp only[Obj.dropName_eq,Obj.dropNameByArray,hi];rfl
   · simp only[Obj.dropName_eq,Obj.dropNameByArray,hi]
   · obtain⟨hlt,hp,_⟩:=z8s.mp hi;rw[<-hm y];unfold nsFind findBy;refine z64 (Option.map _) ?_;obtain⟨l⟩:=es;have hl:i<l.length:=by simpa using hlt
     rw[Array.eraseIdxIfInBounds,dif_pos (by simpa using hl)];have e:=zey (q:=fun e:DictEntry=>e.key.isStr y) l i l[i] (z4x hl) (zqt (by simpa using hp) hy);simpa using e
end
section
variable {X:Cx}{pins:zAO}{σ:L2.St}{H:Hp}{s:Shared}
theorem zn6{M:Model}{A:Around}{E:zVP}{i:Nat}{x:Str}{pos:Pos}{Q:Unit->Shared->Prop}(I:Inv X pins σ H s)(hN:X.N.Nodup)(hi:X.N[i]? = some x)(hx:X.env.scope.names.lookup x=some .local)
   (h:∀s',Inv X pins (σ.set i none) H s'->Q () s'):wpAny M A (do bindName X.env x .none;unbindBehindTheSuite X.env x pos) Q E s:=by
 refine z4u (wpAny_bindName (zcv I hN hi (.inl hx) (show RelV .non .none from rfl) (fun s1 I1=>?_) (.inr hx)));have hcls:(X.env.scope.kind==.class||(X.env.scope.kind==.module&&X.env.locals != X.env.globals))=false:=by rw[I.ok.kind];rfl
 have hk:X.env.kindOf x=some .local:=hx;have hiσ:i<σ.length:=by rw[I.len];exact(z42.mp hi).1
 obtain⟨m,hn,hl⟩:=id I1.loc;obtain⟨u,_,lk⟩:=hl i x .non hi (by rw[z51 hiσ]) (.inl hx);have hu:m x=some u:=by
   rcases lk with⟨_,e⟩ | ⟨k,_⟩
   · exact e
   · rw[hk]at k;rcases k with k | k<;>cases k
 unfold unbindBehindTheSuite;refine wpAny_onRaise ?_;unfold unbindName deleteName;refine z4u (wpAny_point (z4u ?_));simp only[hk,hcls];rw[z5n (by decide)];refine z4u (zzw hn hu fun h2 m2 hn2 hm2 hs=>?_);simp only[z7f,z47,z6b];refine z5e (wpAny_point (h _ ?_));obtain⟨oL,_,_,hoL,_⟩:=id hn;have ne:∀{b:Addr}{o:Obj},X.s₀.heap.get? b=some o->b≠X.env.locals:=fun e=>z5h (z4w (z5f e) I.ok.above);refine⟨I1.ok,I1.os,I1.bare,⟨fun b o e n hb hx=>(hs.2 b (ne e)).trans (I1.base.keep b o e n hb hx),fun b o e n hb hx=>?_,I1.base.free,fun b o e hx=>?_,I1.base.tups,I1.base.frzs,I1.base.tbls⟩,⟨_,hn2,fun j y v' e1 e2 e3=>?_⟩,fun y c e=>?_,I1.free,I1.freeC,fun p hp=>?_,fun b ob e=>?_,by simpa using I1.len⟩
 · obtain⟨sl,e1⟩:=I1.base.slot b o e n hb hx;exact⟨sl,(hs.2 b (ne e)).trans e1⟩
 · obtain⟨o',e1⟩:=I1.base.there b o e hx;exact⟨o',(hs.2 b (ne e)).trans e1⟩
 · by_cases hj:j=i
   · subst hj;rw[z51 hiσ]at e2;cases e2
   · rw[z6j (z7e hj)]at e2;obtain⟨u',r',q⟩:=hl j y v' e1 (by rw[z6j (z7e hj)];exact e2) e3;refine⟨u',r',?_⟩;rcases q with⟨k,e⟩ | ⟨k,c,e,z⟩
     · exact .inl ⟨k,(hm2 y fun e=>hj (zfl hN e1 (e▸hi))).trans e⟩
     · exact .inr ⟨k,c,e,z.sameBut hs (I1.cne y c e)⟩
 · obtain⟨w',z⟩:=I1.cell y c e;exact⟨w',z.sameBut hs (I1.cne y c e)⟩
 · obtain⟨e,n,ne,nf,d⟩:=I1.pin p hp;exact⟨(hs.2 p.1 ne).trans e,n,ne,nf,d⟩
 · refine(I1.hok b ob e).stay (fun c w' hc q=>(hs.2 c ?_).trans q) (fun _ q=>q) fun _ _ q=>q;rintro rfl;rcases hc with rfl | hc
   · rw[I1.free]at e;cases e
   · rw[I1.free]at hc;cases hc
end
theorem zhw{fs:List Addr}{H₀ H:Hp}{a C:Addr}{h₀ h h':Heap}(u:Un fs [] H₀ H h₀ h)(l:Lft fs h₀ H a C h h'):Un fs [] H₀ H h₀ h' where
 keep:=fun b o e n nb hx=>l.keep b o (u.keep b o e n nb hx) nb (.inl ⟨_,e⟩)
 slot:=fun b o e n nb hx=>by obtain⟨sl,q⟩:=u.slot b o e n nb hx;obtain⟨sl',q'⟩:=l.slot b _ q nb;exact⟨sl',q'⟩
 free:=u.free
 there:=fun b o e hx=>by
   obtain⟨o',q⟩:=u.there b o e hx;by_cases z:b∈fs
   · obtain⟨sl,q'⟩:=l.slot b _ q z;exact⟨_,q'⟩
   · exact⟨_,l.keep b _ q z (.inl ⟨_,e⟩)⟩
 tups:=u.tups
 frzs:=u.frzs
 tbls:=u.tbls
structure Mid (X:Cx) (H H':Hp) (s:Shared) (h:Heap) (a C:Addr):Prop where
 un:Un (frs X.stack) [] H H' s.heap h
 hok:HOk X.prog X.w H' h
 fly:Fly s.heap h H' a C
section
variable {X:Cx}{pins:zAO}{σ:L2.St}{H H':Hp}{s s':Shared}{a C:Addr}{M:Model}{E:zVP}{Q:Unit->Shared->Prop}
theorem Mid.inv{h:Heap}(m:Mid X H H' s h a C)(I:Inv X pins σ H s)(os:s'.os=s.os)(hg:AllBare s'.gens)(hh:s'.heap=h):Inv X pins σ H' s':=by subst hh;exact I.call' os m.un m.hok hg fun b hb=>absurd hb (by simp)
theorem zqm(m:Mid X H H' s s'.heap a C)(I:Inv X pins σ H s)(os:s'.os=s.os)(hg:AllBare s'.gens)(hst:X.stack=X.env::X.outer/\X.env.frame=some X.env.locals)
   (h:∀h',Mid X H H' s h' a C->Q () { s' with heap:=h' }):wpAny M X.A (leaving X.env (.ref a)) Q E s':=by
 have I1:=m.inv I os hg rfl;have hfr:=I1.ok.frames;have hl:=I1.stack;rw[hst.1]at hfr hl;refine zet (base:=X.base) (h₀:=s.heap) (H:=H') (L:=X.env.locals) hfr hl hst.2 m.fly (fun b u e=>za4 (m.hok b u e)) (fun b o e=>m.un.there b o e (by simp)) fun h' f1 l1 _=>?_;rw[<-hst.1]at l1;exact h h' ⟨zhw m.un l1,zbw m.hok l1 I1.stkFree,f1⟩
theorem znr{h₁:Heap}{args:List Value}(I:Inv X pins σ H s)(mk:Heap.MadeExcOf s.heap h₁ a (.ref C) args)(hst:X.stack=X.env::X.outer/\X.env.frame=some X.env.locals)
   (h:∀h',Mid X H H s h' a C->Q () { s with heap:=h' }):wpAny M X.A (leaving X.env (.ref a)) Q E { s with heap:=h₁ }:=by
 have I1:Inv X pins σ H { s with heap:=h₁ }:=I.kept (t':=s.toks) mk.keeps;obtain⟨t,he,_⟩:=mk.there;have hu:H a=none:=by
   cases q:H a with
   |none=>rfl
   |some u=>obtain⟨o,z⟩:=za4 (I.hok a u q);rw[mk.new]at z;cases z
 have hfr:=I1.ok.frames;have hl:=I1.stack;rw[hst.1]at hfr hl;refine zdj (base:=X.base) (h₀:=s.heap) (H:=H) (L:=X.env.locals) hfr hl hst.2 he rfl rfl rfl mk.new hu (fun b u e=>za4 (I1.hok b u e)) (fun b o e=>⟨o,mk.keeps b o e⟩) fun h' f1 l1 _=>?_;rw[<-hst.1]at l1;exact h h' ⟨zhw (Un.kept mk.keeps) l1,zbw I1.hok l1 I1.stkFree,f1⟩
theorem zux{A:Around}(m:Mid X H H' s s'.heap a C)(I:Inv X pins σ H s)(os:s'.os=s.os)(hg:AllBare s'.gens)
   (h:∀h',Mid X H H' s h' a C->Q () { s' with heap:=h' }):wpAny M A (setFlight (.ref a) none) Q E s':=by
 have I1:=m.inv I os hg rfl;obtain⟨oe,vs,T,oT,ts,he,hc,hd,h1,hT0,hTH,hTa,hT,hdT,h3⟩:=m.fly.tr;have h3s:3<ts.size:=(Array.getElem?_eq_some_iff.mp h3).1;unfold setFlight;refine z4u (wpAny_field he hd h1 ?_);rw[z5g (show(Value.ref T != Value.none)=true by simp)];refine wpAny_setField hT hdT h3s (h _ ?_);have oth:∀b,b≠T->(s'.heap.update T (Obj.mapFields (·.setIfInBounds 3 ((none:Option Addr).elim Value.none fun f=>rawInt f)))).get? b=s'.heap.get? b:=fun b hb=>z80 _ _ (z7e hb);have l1:Lft (frs X.stack) s.heap H' a C s'.heap (s'.heap.update T (Obj.mapFields (·.setIfInBounds 3 ((none:Option Addr).elim Value.none fun f=>rawInt f)))):=by
   refine⟨fun b o e nb hb=>?_,fun b o e hb=>?_⟩
   · refine(oth b fun z=>?_).trans e;subst z;rcases hb with⟨_,hb⟩ | ⟨_,hb⟩
     · rw[hT0]at hb;cases hb
     · rw[hTH]at hb;cases hb
   · refine⟨o.slots,(oth b fun z=>?_).trans e⟩;subst z;obtain⟨_,o2,ho2,hnf⟩:=I1.stack.mem hb;rw[hT]at ho2;cases ho2;exact hnf _ hdT
 refine⟨zhw m.un l1,zbw m.hok l1 I1.stkFree,m.fly.new,m.fly.un,oe,vs,T,_,_,(oth a (z7e hTa)).trans he,hc,hd,h1,hT0,hTH,hTa,z9b _ hT (Obj.isFreed_of_fields (Obj.data_mapFields hdT _)),Obj.data_mapFields hdT _,by simp[h3s]⟩
theorem Mid.held{h:Heap}(m:Mid X H H' s h a C):Un (frs X.stack) [] H (upd H' a (.ext (OfCls a C))) s.heap h/\HOk X.prog X.w (upd H' a (.ext (OfCls a C))) h:=by
 have ne:∀{b:Addr}{o:HO},H' b=some o->b≠a:=fun e z=>by subst z;rw[m.fly.un]at e;cases e
 refine⟨⟨m.un.keep,m.un.slot,fun b o e n hx=>?_,m.un.there,fun b xs e=>?_,fun b o u e=>?_,fun b ps e=>?_⟩,fun b u e=>?_⟩
 · rw[z0 (fun z=>by subst z;rw[m.fly.new]at e;cases e)];exact m.un.free b o e n hx
 · have q:=m.un.tups b xs e;rw[z0 (ne q)];exact q
 · have q:=m.un.frzs b o u e;rw[z0 (ne q)];exact q
 · obtain⟨more,q⟩:=m.un.tbls b ps e;exact⟨more,by rw[z0 (ne q)];exact q⟩
 · by_cases hb:b=a
   · subst hb;rw[qg]at e;cases e;obtain⟨oe,vs,T,oT,ts,he,hc,hd,_⟩:=m.fly.tr;refine⟨⟨oe,he,hc⟩,⟨oe,he⟩,fun h1 h2 ⟨o,q1,q2⟩ k=>⟨o,k o q1,q2⟩⟩
   · rw[z0 hb]at e;refine(m.hok b u e).stay (fun c w hc q=>q) (fun c q=>?_) fun c xs q=>?_
     · rw[z0 (ne q)];exact q
     · rw[z0 (ne q)];exact q
end
def Cat(K:zFr)(mg:zMg)(c T:Str):Prop :=
 ∃C CT,mg c=some (.ref C)/\mg T=some (.ref CT)/\mroIn K C (.ref CT)=some true/\mroIn K CT (.type "BaseException")=some true/\typeIn K (.ref CT)=some (.type "type")/\(clsIn K CT).isSome=true
section
variable {K:zFr}{A:Around}{E:zVP}{s:Shared}{M:Model}{x C CT:Addr}
theorem zol{Q:Bool->Shared->Prop}(X:K.In s.heap)(I:OfCls x C s.heap)(h1:mroIn K C (.ref CT)=some true)(h2:mroIn K CT (.type "BaseException")=some true)(h3:typeIn K (.ref CT)=some (.type "type"))(h4:(clsIn K CT).isSome=true)(hq:Q true s) :
   wpAny M A (excMatches (.ref x) (.ref CT)) Q E s:=by
 have L0:=I.type (M:=M);have L1:=looks_mroIn (M:=M) X h1;have L2:=looks_mroIn (M:=M) X h2;have L3:=looks_typeIn (M:=M) X h3;have L4:Looks M s.heap (isInstance (.ref CT) (.type "tuple")) false:=L3.andThen (Looks.of_pure tc_notTuple);have L5:Looks M s.heap (isType (.ref CT)) true:=by
   unfold clsIn at h4;split at h4
   · rename_i ho;intro A' Q' E' s' k q;exact z4u (z9y (k _ _ (X _ _ ho)) (z5e q))
   · cases h4
 have L6:Looks M s.heap (isExcClass (.ref CT)) true:=by unfold isExcClass;refine L5.andThen ?_;rw[z5g rfl];exact L2
 obtain⟨hh,g,d,t,os⟩:=s;unfold excMatches;refine z4u (L4.at ?_);simp only[z47,z6b,pure_bind,z8a,List.forIn_nil,bind_assoc];refine z4u (L6.at ?_);simp only[z7f,z47,z6b,pure_bind];refine z4u (L0.at ?_);refine z4u (L1.at ?_);simp only[z6s,pure_bind];exact z5e hq
end
def zw0(c:C)(r:R)(cat:Str->Bool)(i:Nat)(d:C):C:=fun ev S=>match c ev S with
 |some (.nx e,S1)=>some (.nx e,S1)
 |some (.rt x,S1)=>some (.rt x,S1)
 |some _=>none
 | none=>(r ev S).bind fun p=>if cat p.1=true then (d (ev.set i (some (.obj p.2.length))) (p.2++[.exc p.1])).bind fun q=>(match q.1 with
   | .nx e=>some (.nx (e.set i none),q.2)
   | .rt x=>some (.rt x,q.2)
   |_=>none)else none
theorem EnvR.unset{K mg ρ H}{ev:Ev}{σ:L2.St}(h:EnvR K mg ρ H ev σ)(i:Nat):EnvR K mg ρ H (ev.set i none) (σ.set i none):=by
 refine⟨by rw[z7y,z7y];exact h.len,fun j x q=>?_⟩;by_cases hj:j=i
 · subst hj;have hi:j<ev.length:=by
     have:=(z42.mp q).1
     rwa [z7y]at this
   rw[z51 hi]at q;cases q
 · rw[z6j (z7e hj)]at q ⊢;exact h.at_ j x q
abbrev Cx.inExc(X:Cx)(v:Option Value)(xe:zVP):Cx:={ X with A:=X.A.mark v,calm:=false,xe:=xe }
section
variable {X:Cx}{pins:zAO}{σ:L2.St}{H H':Hp}{s s':Shared}
theorem Inv.toExc(I:Inv X pins σ H s)(v:Option Value)(xe:zVP):Inv (Cx.inExc X v xe) pins σ H s :=
 ⟨⟨I.ok.mod,I.ok.kind,I.ok.glob,I.ok.blt,I.ok.above,I.ok.inj,I.ok.has,I.ok.cab,(fun h=>nomatch h),I.ok.frames,I.ok.stk,I.ok.exf,I.ok.bs,I.ok.bsz,I.ok.noex,I.ok.exfs,I.ok.funs,I.ok.frf⟩,I.os,I.bare,I.base,I.loc,I.cell,I.free,I.freeC,I.pin,I.hok,I.len⟩
theorem Inv.ofExc{v:Option Value}{xe:zVP}(I:Inv (Cx.inExc X v xe) pins σ H s)(ok:X.Ok):Inv X pins σ H s :=
 ⟨ok,I.os,I.bare,I.base,I.loc,I.cell,I.free,I.freeC,I.pin,I.hok,I.len⟩
variable {body suite:List Stmt}{b0:Stmt}{c d:C}{r:R}{T n:Str}{np pos' pos:Pos}{cat:Str->Bool}{Q:Flow->Shared->Prop}
theorem zex{i:Nat}{H0:Hp}{ρ ρ':List Addr}{ev:Ev}{S1 S':Sto}{o:Out}{cls:Str}{a C:Addr}{D:Ends}(hs:∀v xe,FSs (Cx.inExc X v xe) (b0::suite) d)(hN:X.N.Nodup)(hi:X.N[i]? = some n)(hx:X.env.scope.names.lookup n=some .local)
   (hcat:Cat X.K X.mg cls T) (hg:Gl X T) (hdb:(T==("__debug__":Str))=false) (I:Inv X pins σ H s) (m:Mid X H H' s s'.heap a C) (os:s'.os=s.os) (hb:AllBare s'.gens) (hE:EnvR X.K X.mg ρ H0 ev σ)
   (e1:Ext ρ H0 ρ' H') (hS:StOk X.K X.mg ρ' H' S1) (hC:X.mg cls=some (.ref C))
   (hf:((d (ev.set i (some (.obj S1.length))) (S1++[.exc cls])).bind fun q=>(match q.1 with
     | .nx e=>some (Out.nx (e.set i none),q.2)
     | .rt x=>some (.rt x,q.2)
     |_=>none))=some (o,S')) (k:Post X.K X.mg D S' ρ H0 o) :
   wpAny (model X.prog X.w) X.A (handleBy (.ref a) X.env [.ExceptHandler (some (.Name T np)) (some n) (b0::suite) pos']) (SP X pins D) X.xe s':=by
 obtain⟨C',CT,hc1,hc2,h1,h2,h3,h4⟩:=hcat;rw[hC]at hc1;cases hc1;have I1:=m.inv I os hb rfl;have Im:=Inv.toExc I1 (some (.ref a)) (notedBy (model X.prog X.w) (X.A.mark (some (.ref a))) X.env (cameBackBy (model X.prog X.w) X.A X.env X.xe));have oc:OfCls a C s'.heap:=by obtain⟨oe,vs,T,oT,ts,he,hc,_⟩:=m.fly.tr;exact⟨oe,he,hc⟩
 refine wpAny_handleBy_cons (codeAny_handlers_test (zas (X:=Cx.inExc X (some (.ref a)) _) Im hg hc2 (zol I1.kIn oc h1 h2 h3 h4 ?_) hdb)) (by intro q;cases q);refine codeAny_handlers_suite_as (zux m I os hb fun h6 m6=>?_);obtain⟨un6,hok6⟩:=m6.held;have I6:Inv X pins σ (upd H' a (.ext (OfCls a C))) { s' with heap:=h6 }:=I.call' os un6 hok6 hb fun b hb=>absurd hb (by simp);have I6m:=Inv.toExc I6 (some (.ref a)) (AsSuiteRaised (model X.prog X.w) (X.A.mark (some (.ref a))) X.env n pos' (notedBy (model X.prog X.w) (X.A.mark (some (.ref a))) X.env (cameBackBy (model X.prog X.w) X.A X.env X.xe)));refine zcv (X:=Cx.inExc X (some (.ref a)) _) (v:=.ref a) I6m hN hi (.inl hx) rfl (fun s7 I7=>?_) (.inr hx);obtain⟨⟨o2,S2⟩,q2,hf⟩:=zv hf;have e2:Ext ρ' H' (ρ'++[a]) (upd H' a (.ext (OfCls a C))):=zcg hS _ m.fly.un;have hS2:StOk X.K X.mg (ρ'++[a]) (upd H' a (.ext (OfCls a C))) (S1++[.exc cls]):=hS.add m.fly.un ⟨C,hC,qg⟩;have hE2:EnvR X.K X.mg (ρ'++[a]) (upd H' a (.ext (OfCls a C))) (ev.set i (some (.obj S1.length))) (σ.set i (some (.ref a))):=by refine EnvR.set (hE.mono (e1.trans e2)) ?_ i;unfold Rep;refine⟨a,rfl,?_⟩;rw[z5i (by rw[hS.len]<;>exact z4v _),hS.len];simp
 have go:=hs (some (.ref a)) _ pins s7 _ _ { nx:=fun σ' H2=>D.nx (σ'.set i none) H2,rt:=D.rt,bk:=fun _ _=>False,ct:=fun _ _=>False } I7 ⟨_,_,_,o2,S2,hE2,hS2,q2,by
   cases o2 with
   |nx e=>cases hf;exact fun σ' ρ2 H2 x1 x2 x3=>k _ ρ2 H2 ((e1.trans e2).trans x1) x2 (x3.unset i)
   |rt x=>cases hf;exact fun v ρ2 H2 x1 x2 x3=>k v ρ2 H2 ((e1.trans e2).trans x1) x2 x3
   |_=>cases hf⟩
 refine thn go fun f s8 q=>?_;cases f with
 | next=>
   obtain⟨σ8,H8,I8,q⟩:=q;exact zn6 (Inv.ofExc I8 I.ok) hN hi hx fun s9 I9=>⟨_,H8,I9,q⟩
 | ret u=>
   obtain⟨v,σ8,H8,I8,r8,q⟩:=q;exact zn6 (Inv.ofExc I8 I.ok) hN hi hx fun s9 I9=>⟨v,_,H8,I9,r8,q⟩
 |brk=>obtain⟨_,_,_,q⟩:=q;exact q.elim
 |cont=>obtain⟨_,_,_,q⟩:=q;exact q.elim
end
section
variable {M:Model}{A:Around}{E:zVP}{s:Shared}{env:Env}
theorem zmg{bd els:Sem Flow}{k₀:ExceptHandler}{ks:List ExceptHandler}{Q:Flow->Shared->Prop}
   (h:wpAny M A bd (fun f s₁=>match f with | .next=>wpAny M A els Q E s₁ | f=>Q f s₁) (fun e s₁=>wpAny M A (leaving env e) (fun _ s₂=>wpAny M A (handleBy e env (k₀::ks)) Q E s₂) E s₁) s) :
   wpAny M A (tryStmt false bd (k₀::ks) els [] env) Q E s:=by
 unfold tryStmt;simp only[List.isEmpty_nil,z6s,List.isEmpty_cons,z47,z6b,z9x];refine z4u (z9h (z69 h (fun f s₁ h₁=>?_) fun e s₁ h₁=>?_))
 · cases f<;>first | exact h₁ | exact z5e h₁
 · show wpAny M A (noteFrame e env >>= fun _=>setFlight e none >>= fun _=>handleBy e env (k₀::ks)) Q E s₁;rw[<-bind_assoc];exact z4u h₁
end
section
variable {X:Cx}{body suite:List Stmt}{b0:Stmt}{c d:C}{r:R}{T n:Str}{np pos' pos:Pos}{cat:Str->Bool}
theorem zy5(i:Nat)(hb:∀xe,FSs (X.wish xe) body c)(hr:∀xe,RTs (X.wish xe) body r)(hs:∀v xe,FSs (Cx.inExc X v xe) (b0::suite) d)(hN:X.N.Nodup)(hcat:∀c,cat c=true->Cat X.K X.mg c T)
   (hi:X.N[i]? = some n:=by rfl) (hx:X.env.scope.names.lookup n=some .local:=by rfl) (hst:X.stack=X.env::X.outer/\X.env.frame=some X.env.locals:=by exact⟨rfl,rfl⟩) (hg:Gl X T:=by rfl) (hdb:(T==("__debug__":Str))=false:=by decide) :
   FS X (.Try body [.ExceptHandler (some (.Name T np)) (some n) (b0::suite) pos'] [] [] pos) (zw0 c r cat i d):=by
 intro pins s σ H D I t;obtain⟨ρ,ev,S,o,S',hE,hS,hf,k⟩:=t;rw[arm_exec_Try];refine z4u (wpAny_standAt (zmg ?_));generalize hW:(fun e s₁=>wpAny (model X.prog X.w) X.A (leaving X.env e) (fun _ s₂=>wpAny (model X.prog X.w) X.A (handleBy e X.env [.ExceptHandler (some (.Name T np)) (some n) (b0::suite) pos']) (SP X pins D) X.xe s₂) X.xe s₁)=W;unfold zw0 at hf;split at hf
 · rename_i e1 S1 q;cases hf;refine thn (hb W pins s σ H { nx:=D.nx,rt:=fun _ _=>False } (I.wish W) ⟨ρ,ev,S,.nx e1,_,hE,hS,q,k⟩) fun f s1 z=>?_;cases f with
   | next=>
     obtain⟨σ1,H1,I1,z⟩:=z;exact z9k ⟨σ1,H1,I1.unwish,z⟩
   |ret u=>obtain⟨_,_,_,_,_,z⟩:=z;exact z.elim
   |brk=>obtain⟨_,_,_,z⟩:=z;exact z.elim
   |cont=>obtain⟨_,_,_,z⟩:=z;exact z.elim
 · rename_i x1 S1 q;cases hf;refine thn (hb W pins s σ H { nx:=fun _ _=>False,rt:=D.rt } (I.wish W) ⟨ρ,ev,S,.rt x1,_,hE,hS,q,k⟩) fun f s1 z=>?_;cases f with
   |next=>obtain⟨_,_,_,z⟩:=z;exact z.elim
   | ret u=>
     obtain⟨v,σ1,H1,I1,r1,z⟩:=z;exact⟨v,σ1,H1,I1.unwish,r1,z⟩
   |brk=>obtain⟨_,_,_,z⟩:=z;exact z.elim
   |cont=>obtain⟨_,_,_,z⟩:=z;exact z.elim
 · cases hf
 · obtain⟨⟨cls,S1⟩,q1,hf⟩:=zv hf;dsimp only at hf;split at hf
   · rename_i hc;have ct:=hcat cls hc;obtain⟨C,CT,hC,_⟩:=id ct;refine hr W pins s σ H (fun e oC H'=>∃ρ',oC=some C/\Ext ρ H ρ' H'/\StOk X.K X.mg ρ' H' S1) _ ?_ (I.wish W) ⟨ρ,ev,S,cls,S1,hE,hS,q1,C,hC,fun e ρ' H' x1 x2=>⟨ρ',rfl,x1,x2⟩⟩;subst hW;refine⟨fun {H1 s1 a C1 h₁ args} I1 mk hE1=>?_,fun {H1 s1 e s2} I1 hx1=>?_⟩
     · obtain⟨ρ',rfl',x1,x2⟩:=hE1;cases rfl';exact znr I1.unwish mk hst fun h' m=>zex hs hN hi hx ct hg hdb I1.unwish m rfl I1.bare hE x1 x2 hC hf k
     · obtain⟨a,C1,H',rfl,os,bare,un,hok,fl,ρ',rfl',x1,x2⟩:=hx1;cases rfl';exact zqm ⟨un,hok,fl⟩ I1.unwish os bare hst fun h' m=>zex hs hN hi hx ct hg hdb I1.unwish m os bare hE x1 x2 hC hf k
   · cases hf
end
def zrr:List Value:=[.type "ValueError",.type "Exception",.type "BaseException",.type "object"]
theorem zjc{K:zFr}:∀{l:List Value},tailIn K zrr l=true->l.contains (.type "BaseException")=true
 | [],e=>by cases(z7q.mp e)
 | v::r,e=>by
   unfold tailIn at e;rcases Bool.or_eq_true_iff.mp e with q | q
   · rw[z7q.mp q];decide +kernel
   · split at q
     · split at q
       · simp only[z50,z7q]at q;rw[List.contains_cons,zjc q.2,Bool.or_true]
       · cases q
     · cases q
theorem zzm{K:zFr}{mg:zMg}{c:Str}{C:Addr}(hm:mg c=some (.ref C))(q:excIn K C zrr "ValueError.__new__"=true):ExcCls K mg c:=by
 unfold excIn at q;split at q
 · rename_i dd cd sl ho;split at q
   · rename_i C' bm k0 k1 k2 k3 n k5 hmro hs;simp only[z50,z7q,Bool.not_eq_true']at q;obtain⟨⟨⟨⟨⟨rfl,rfl⟩,hdel⟩,ht⟩,hok⟩,hni⟩:=q;obtain⟨nm,bs,mro,ns,qn,hd,sn,sub,ab,col,del⟩:=cd;dsimp only at hmro hdel hok hni;subst hmro;subst hdel;have hsl:sl=#[k0,k1,k2,k3,some (.builtin "ValueError.__new__"),k5]:=by
       cases sl with
       |mk l=>simp only at hs;subst hs;rfl
     subst hsl;unfold nsOkIn at hok;split at hok
     · rename_i oc od es ep osl hN;have hk:StrKeys es:=fun e he=>by
         have z:=Array.all_eq_true_iff_forall_mem.mp hok e he;cases hkey:e.key with
         |str n t=>exact⟨n,t,rfl⟩
         |_=>rw[hkey]at z;cases z
       have hi:nsFind es "__init__"=none:=by
         unfold nsIn at hni;rw[hN]at hni;dsimp only at hni;split at hni
         · cases hni
         · rename_i he;unfold nsFind findBy;rw[<-Array.find?_toList,he];rfl
       refine⟨_,ns,nm,qn,bs,bm,zrr,hd,sn,sub,ab,col,dd,k0,k1,k2,k3,k5, "ValueError", "ValueError.__new__", "ValueError.__init__",nsFind es,hm,PySem.F.excBase_ValueError,?_,hi,fun h X=>⟨X _ _ ho,⟨_,es,ep,X _ _ hN,rfl,hk,fun _=>rfl⟩,tail_of_in X ht⟩⟩;exact zjc ht
     · cases hok
   · cases q
 · cases q
def ExcI(K:zFr)(mg:zMg)(c:Str):Prop:=∃C,mg c=some (.ref C)/\ExcIs K C/\kitOne K (.ref C) (.type "ValueError")=some true
def IsF(K:zFr)(mg:zMg)(c d:Str)(b:Bool):Prop:=∃C D,mg c=some (.ref C)/\mg d=some (.ref D)/\kitOne K (.ref C) (.ref D)=some b
structure Up where
 raised:List Str
 asked:List Str
def Up.is(u:Up)(c d:Str):Option Bool:=if c∈u.raised/\d∈u.asked then some (decide (d=c\/d="ShelfError"))else none
def zvf:List D->Option (List Str)
 | []=>some []
 | .fn d::r=>(zvf r).map (d::·)
 |_=>none
def Up.any(u:Up)(c:Str):List Str->Option Bool
 | []=>some false
 |d::r=>(u.is c d).bind fun b=>if b=true then some true else u.any c r
def Up.ask(u:Up)(c:Str):D->Option Bool
 | .fn d=>u.is c d
 | .ty n=>if c∈u.raised/\n="ValueError" then some true else none
 | .tup ds=>if c∈u.raised then (zvf ds).bind (u.any c)else none
 |_=>none
def zsq(u:Up)(S:Sto):List D->Option D
 | [.obj i,d]=>match S[i]? with
   |some (.exc c)=>(u.ask c d).map .bl
   |_=>none
 |_=>none
def Up.cat(u:Up)(c:Str):Bool:=decide (c∈u.raised)
structure UpOk (K:zFr) (mg:zMg) (u:Up):Prop where
 ct:∀c∈u.raised,Cat K mg c "ShelfError"
 ei:∀c∈u.raised,ExcI K mg c
 is_:∀c∈u.raised,∀d∈u.asked,IsF K mg c d (decide (d=c\/d="ShelfError"))
section
variable {X:Cx}{e:Expr}{es:List Expr}{g:As}{p pos:Pos}{u:Up}
def z28(K:zFr)(mg:zMg):List V->Hp->VK->Prop:=fun xs H Q=>∃a C b y,xs=[.ref a,y]/\H a=some (.ext (OfCls a C))/\ExcIs K C /\
 ((∃w,RelV y w/\(∀w',RelV y w'->w'=w)/\kitOne K (.ref C) w=some b)\/(∃q ys its,y=.ref q/\SqT K H q ys/\Vals ys its/\(∀its',Vals ys its'->its'=its)/\kitAny K (.ref C) its=some b))/\Q (.bl b) H
theorem zrk:CallR X (.builtin "isinstance") (z28 X.K X.mg):=by
 intro pins s σ H xs us Q I r h;obtain⟨a,C,b,y,rfl,ha,hz,hk,q⟩:=h;obtain⟨u1,u2,rfl,r1,r2⟩:∃u1 u2,us=[u1,u2]/\RelV (.ref a) u1/\RelV y u2:=by
   cases r with
   | cons p q=>
     cases q with
     |cons p' q'=>cases q';exact⟨_,_,rfl,p,p'⟩
 cases(show u1=Value.ref a from r1);have oc:OfCls a C s.heap:=(I.hok a _ ha).1;rcases hk with⟨w,rw_,un,hk⟩ | ⟨q',ys,its,rfl,sq,vs,un,hk⟩
 · rw[un _ r2];exact kia_one (zjx hz) I.kIn oc hk (fun z=>nomatch z) fun tk=>⟨.bl _,H,I.tok tk,rfl,q⟩
 · cases(show u2=Value.ref q' from r2);obtain⟨its2,v2,⟨o,h1,h2,h3⟩,_⟩:=I.tuple sq;rw[un _ v2]at h3;obtain⟨oc',od,odt,osl⟩:=o;obtain⟨n,h3⟩:=h3;dsimp only at h2 h3;subst h2;subst h3;exact kia_tup (zjx hz) I.kIn oc h1 hk (fun z=>nomatch z) fun tk=>⟨.bl _,H,I.tok tk,rfl,q⟩
theorem zss{K:zFr}{mg:zMg}{ρ:List Addr}{H:Hp}:∀{ds:List D}{xs:List Str}{ys:List V},zvf ds=some xs->RepL K mg ρ H ds ys->∃as:List Addr,ys=as.map V.ref/\xs.map mg=as.map fun a=>some (Value.ref a)
 | [],xs,ys,e,r=>by unfold RepL at r;subst r;cases e;exact⟨[],rfl,rfl⟩
 | d::ds,xs,ys,e,r=>by
   unfold RepL at r;obtain⟨v,r',rfl,h1,h2⟩:=r;cases d with
   | fn d=>
     obtain⟨l,e1,e2⟩:=yz e;subst e2;unfold Rep at h1;obtain⟨A,rfl,hA⟩:=h1;obtain⟨as,q1,q2⟩:=zss e1 h2;exact⟨A::as,by rw[q1];rfl,by rw[z5a,z5a,hA,q2]⟩
   |_=>cases e
theorem zbr:∀(as:List Addr),Vals (as.map V.ref) (as.map Value.ref)/\∀its,Vals (as.map V.ref) its->its=as.map Value.ref
 | []=>⟨.nil,fun its h=>by cases h;rfl⟩
 | a::as=>⟨.cons rfl (zbr as).1,fun its h=>by
   cases h with
   |cons p q=>rw[(zbr as).2 _ q,show _=Value.ref a from p];rfl⟩
theorem ztf{K:zFr}{mg:zMg}(h:UpOk K mg u){c:Str}{C:Addr}(hc:c∈u.raised)(hC:mg c=some (.ref C)):∀{xs:List Str}{as:List Addr}{b:Bool},xs.map mg=(as.map fun a=>some (Value.ref a))->u.any c xs=some b ->
   kitAny K (.ref C) (as.map Value.ref)=some b
 | [],as,b,q,e=>by
   cases as with
   |nil=>cases e;rfl
   |cons _ _=>cases q
 | d::xs,as,b,q,e=>by
   cases as with
   |nil=>cases q
   | cons A as=>
     rw[z5a,z5a,z67]at q;obtain⟨b1,e1,e2⟩:=zv e;unfold Up.is at e1;split at e1
     · rename_i hz;obtain⟨C',D',x1,x2,x3⟩:=h.is_ c hc d hz.2;rw[hC]at x1;cases x1;rw[q.1]at x2;cases x2;rw[z53 e1]at x3;unfold List.map kitAny;rw[x3];cases b1 with
       |true=>rw[z5g rfl]at e2;exact e2
       |false=>rw[z5n (by decide)]at e2;exact ztf h hc hC q.2 e2
     · cases e1
theorem zt2{K:zFr}{mg:zMg}(h:UpOk K mg u):zry K mg (z28 K mg) (zsq u):=by
 intro ρ H S xs ds d Q hS r e k;unfold zsq at e;split at e
 · rename_i i d';split at e
   · rename_i c hi;obtain⟨b,e1,e2⟩:=yz e;subst e2;obtain⟨v,w,rfl,r1,r2⟩:=two r;unfold Rep at r1;obtain⟨a,rfl,ha⟩:=r1;obtain⟨C,hC,hH⟩:=hS.ob i _ a hi ha;unfold Up.ask at e1;split at e1
     · rename_i dn;unfold Rep at r2;obtain⟨A,rfl,hA⟩:=r2;unfold Up.is at e1;split at e1
       · rename_i hz;obtain⟨C',D',x1,x2,x3⟩:=h.is_ c hz.1 dn hz.2;rw[hC]at x1;cases x1;rw[hA]at x2;cases x2;rw[z53 e1]at x3;obtain⟨C',y1,y2,_⟩:=h.ei c hz.1;rw[hC]at y1;cases y1;exact⟨a,C,b,_,rfl,hH,y2,.inl ⟨.ref A,rfl,fun _ z=>z,x3⟩,k _ H (Ext.refl _ _) hS rfl⟩
       · cases e1
     · rename_i n;split at e1
       · rename_i hz;cases e1;obtain⟨C',y1,y2,y3⟩:=h.ei c hz.1;rw[hC]at y1;cases y1;rw[show w=.ty n from r2,hz.2];exact⟨a,C,true,_,rfl,hH,y2,.inl ⟨.type "ValueError",rfl,fun _ z=>z,y3⟩,k _ H (Ext.refl _ _) hS rfl⟩
       · cases e1
     · rename_i ds';split at e1
       · rename_i hz;obtain⟨xs,e1,e2⟩:=zv e1;obtain⟨p,vs,rfl,tt,rl⟩:=r2.refT;obtain⟨as,q1,q2⟩:=zss e1 rl;obtain⟨C',y1,y2,y3⟩:=h.ei c hz;rw[hC]at y1;cases y1;refine⟨a,C,b,_,rfl,hH,y2,.inr ⟨p,vs,as.map Value.ref,rfl,tt.sq,?_,?_,ztf h hz hC q2 e2⟩,k _ H (Ext.refl _ _) hS rfl⟩
         · rw[q1];exact(zbr as).1
         · rw[q1];exact(zbr as).2
       · cases e1
     · cases e1
   · cases e
 · cases e
theorem zoi(h:UpOk X.K X.mg u)(hm:X.mg "isinstance"=none)(ha:FA X (e::es) g)(hg:Gl X "isinstance":=by rfl)(he:starEach (e::es) X.env=(false,eval e X.env)::starEach es X.env:=by exact zy rfl)(hpl:(backTo pos (starEach es X.env)).any (·.1)=false:=by exact qx rfl) :
   FE X (.Call (.Name "isinstance" p) (e::es) [] pos) (eA (zsq u) g) :=
 zg3 zrk (zt2 h) hm (by with_unfolding_all rfl) ha hg (by decide) (by decide) he hpl
end
section
variable {K:zFr}{mg:zMg}{h:Heap}
theorem zkf{C:Addr}(h8:hasDictIn K C=true):(clsIn K C).isSome=true:=by obtain⟨cd,hc,_⟩:=any_some h8;rw[hc];rfl
theorem has_exc(KX:K.In h)(G:h.Ns mainGlobals mg){c:Str}{C:Addr}(a:nsIn K mainGlobals c=some (some (.ref C)))(q:excIn K C zrr "ValueError.__new__"=true):ExcCls K mg c:=zzm (mg_of KX G a) q
theorem has_ei(KX:K.In h)(G:h.Ns mainGlobals mg){c:Str}{C:Addr}(a:nsIn K mainGlobals c=some (some (.ref C)))(h1:findIn K (.ref C) "__getattribute__"=some (some (.builtin "BaseException.__getattribute__")))(h2:findIn K (.ref C) "__getattr__"=some none)
   (h3:findIn K (.ref C) "__class__"=some (some (.builtin "object.__class__"))) (h4:specialIn K (.builtin "object.__class__") "__get__"=some (some (.builtin "getset_descriptor.__get__"))) (h5:takesIn K (.builtin "object.__class__")=some true) (h6:mroIn K C (.type "object")=some true)
   (h7:mroIn K C (.type "BaseException")=some true) (h8:hasDictIn K C=true) (h9:kitOne K (.ref C) (.type "ValueError")=some true):ExcI K mg c:=⟨C,mg_of KX G a,⟨h1,h2,h3,h4,h5,h6,h7,zkf h8⟩,h9⟩
theorem has_is(KX:K.In h)(G:h.Ns mainGlobals mg){c d:Str}{C D:Addr}{b:Bool}(a:nsIn K mainGlobals c=some (some (.ref C)))(a':nsIn K mainGlobals d=some (some (.ref D)))(q:kitOne K (.ref C) (.ref D)=some b):IsF K mg c d b:=⟨C,D,mg_of KX G a,mg_of KX G a',q⟩
theorem has_cat(KX:K.In h)(G:h.Ns mainGlobals mg){c d:Str}{C D:Addr}(a:nsIn K mainGlobals c=some (some (.ref C)))(a':nsIn K mainGlobals d=some (some (.ref D)))(h1:mroIn K C (.ref D)=some true)(h2:mroIn K D (.type "BaseException")=some true)
   (h3:typeIn K (.ref D)=some (.type "type")) (h4:hasDictIn K D=true):Cat K mg c d:=⟨C,D,mg_of KX G a,mg_of KX G a',h1,h2,h3,zkf h4⟩
theorem has_val(KX:K.In h)(G:h.Ns mainGlobals mg){c:Str}{C:Addr}(a:nsIn K mainGlobals c=some (some (.ref C))):∃f,mg c=some (.ref f):=⟨C,mg_of KX G a⟩
theorem is_of{c d:Str}{b:Bool}(h:IsF K mg c d b)(e:b=decide (d=c\/d="ShelfError"):=by decide +kernel):IsF K mg c d (decide (d=c\/d="ShelfError")):=e▸h
theorem all_nil{P:Str->Prop}:∀x∈([]:List Str),P x:=fun _ h=>nomatch h
theorem all_cons{P:Str->Prop}{a:Str}{l:List Str}(h:P a)(t:∀x∈l,P x):∀x∈a::l,P x:=fun x hx=>by
 rcases z46.mp hx with rfl | hx
 · exact h
 · exact t x hx
theorem UpOk.cat{u:Up}(h:UpOk K mg u):∀c,u.cat c=true->Cat K mg c "ShelfError":=fun c e=>h.ct c (z7h e)
theorem boot_ValueError:bootBuiltins "ValueError"=some (.type "ValueError"):=by with_unfolding_all rfl
end
section
variable {P:Program}{w:World}{K:zFr}{mg:zMg}{base:Heap}{x c m qual:Str}{st:Stmt}{N ps:List Str}{k:Nat}{r:R}
def z2x(P:Program)(w:World)(K:zFr)(mg:zMg)(base:Heap)(N:List Str)(qual:Str)(st:Stmt)(k:Nat)(r:R):Prop :=
 ∀(f:Addr) (cdv:Value) (A:Around) (outer:List Env) (s:Shared) (H:Hp) (E:XK),Room k (A.deeper (envOfC qual (zh st) s.heap.objs.size f cdv))->RSs (zbp (CX1 P w) P w K mg base N qual (zh st) f cdv A outer s H E) (jb st) r
theorem HasDef.rcal(h:HasDef K mg x st 0)(S:FnScope N ps (zh st))(hb:zti x x st ps)(hbody:z2x P w K mg base N x st k r):RCal P w K mg base (k+1) x (zhk N.length ps.length r):=by obtain⟨f,fd,dV,F,hm,rfl⟩:=h.ex;exact⟨f,fd,ps,[],[],[],_,F.rok S fun cdv A outer s H E hr=>hbody f cdv A outer s H E hr,hm,F.kp,F.binds0 hb,.nil,fun _ _=>RepL.nil,fun args S r e=>by rw[z5q];exact e⟩
end
def z1w:D->Option D
 | .int i=>some (.int (-i))
 |_=>none
theorem zzb{X:Cx}{e:Expr}{f:E}{pos:Pos}(h:FE X e f):FE X (.UnaryOp .USub e pos) (e1 z1w f):=qz (z1n zwe h) fun σ H Q t=>by
 obtain⟨ρ,ev,S,d,S',hE,hS,hf,k⟩:=t;obtain⟨⟨x,S1⟩,q1,hf⟩:=zv hf;obtain⟨z,q2,hf⟩:=yz hf;cases hf;cases x with
 | int i=>
   cases q2;exact⟨ρ,ev,S,_,S1,hE,hS,q1,fun v ρ1 H1 a b c=>⟨i,c,k _ ρ1 H1 a b rfl⟩⟩
 |_=>cases q2
section
variable {X:Cx}{K:zFr}{mg:zMg}{e a b:Expr}{es:List Expr}{f g:E}{ga:As}{p pos:Pos}
def z4s(_:Sto):List D->Option D
 | [.int i]=>some (.int i)
 | [.bl b]=>some (.int (if b then 1 else 0))
 |_=>none
def zvz(_:Sto):List D->Option D
 | [.int i]=>if i.natAbs.log2<1920 then some (.str (toString i))else none
 |_=>none
theorem ztv:zry K mg (fun xs H Q=>∃i,xs=[.int i]/\i.natAbs.log2<1920/\Q (.str (toString i)) H) zvz:=by
 intro ρ H S xs ds d Q hS r e k;unfold zvz at e;split at e
 · split at e
   · rename_i h;cases e;obtain⟨v,rfl,r1⟩:=one r;exact⟨_,by rw[show v=.int _ from r1],h,k _ H (Ext.refl _ _) hS rfl⟩
   · cases e
 · cases e
theorem zqz(hm:X.mg "str"=none)(ha:FA X (e::es) ga)(hg:Gl X "str":=by rfl)(he:starEach (e::es) X.env=(false,eval e X.env)::starEach es X.env:=by exact zy rfl)(hpl:(backTo pos (starEach es X.env)).any (·.1)=false:=by exact qx rfl) :
   FE X (.Call (.Name "str" p) (e::es) [] pos) (eA zvz ga):=z2f zg9 ztv hm zrq ha hg (by decide) (by decide) he hpl
end
def zca(x:Str)(lo hi:Option Int):Str:=if((Builtin.Str.strSliceIndices lo hi 1 x.length).length==x.length)=true then x else ⟨((Builtin.Str.strSliceIndices lo hi 1 x.length).filterMap (x.cps[·]?)).toArray⟩
def zx3:D->Option Int->Option Int->Option D
 | .str x,lo,hi=>if(zca x lo hi).length<=sizeLine then some (.str (zca x lo hi))else none
 |_,_,_=>none
def z00(f:E)(a b:Pt):E:=fun ev S=>(f ev S).bind fun p=>(a ev p.2).bind fun q=>(b ev q.2).bind fun r=>(zx3 p.1 q.1 r.1).map fun d=>(d,r.2)
section
variable {X:Cx}{K:zFr}{mg:zMg}{e a b:Expr}{es:List Expr}{f g:E}{ga:As}{p pos:Pos}
def z38:V->Option Int->Option Int->Hp->VK->Prop:=fun x lo hi H Q=>∃z,x=.str z/\(zca z lo hi).length<=sizeLine/\Q (.str (zca z lo hi)) H
theorem zwu:SlR X z38:=by
 intro pins s σ H x v vl vu lo hi sl Q I rx hs pl pu h;obtain⟨z,rfl,hz,q⟩:=h;obtain⟨t,rfl⟩:=rx;have hp:∀{v:Value}{o:Option Int},IsPart v o->∃l:Option (Int×Tok),v=partValue l/\l.map (·.1)=o:=fun h=>by
   cases h with
   |none=>exact⟨none,rfl,rfl⟩
   |int i t=>exact⟨some (i,t),rfl,rfl⟩
 obtain⟨l,rfl,rfl⟩:=hp pl;obtain⟨u,rfl,rfl⟩:=hp pu;refine⟨"str",_,PySem.F.slot_str_getitem.lookup,typeIs_str s z t,?_⟩;refine wpAny_getItem_str_slice (l:=l) (u:=u) (st:=none) hs rfl ?_;unfold sliceMade;by_cases c:((slicePicked z l u none).length==z.length)=true
 · rw[z5g (by rw[c];rfl)];have e:zca z (l.map (·.1)) (u.map (·.1))=z:=z5g c;rw[e]at q;exact⟨.str z,H,I,⟨t,rfl⟩,q⟩
 · rw[z5n (fun w=>c (by simpa using w))];have e:zca z (l.map (·.1)) (u.map (·.1))=⟨((slicePicked z l u none).filterMap (z.cps[·]?)).toArray⟩:=z5n c;rw[e]at q hz;exact⟨hz,.str _,H,I.tok _,⟨_,rfl⟩,q⟩
theorem zof{lo hi:Option Expr}{u w:Pt}{p2:Pos}(ha:FE X a f)(hl:FPt X lo u)(hh:FPt X hi w):FE X (.Subscript a (.Slice lo hi none p2) pos) (z00 f u w) :=
 qz (zjn zwu ha hl hh) fun σ H Q h=>by
   obtain⟨ρ,ev,S,d,S',hE,hS,hf,k⟩:=h;obtain⟨⟨x,S1⟩,q1,hf⟩:=zv hf;obtain⟨⟨lo,S2⟩,q2,hf⟩:=zv hf;obtain⟨⟨hi,S3⟩,q3,hf⟩:=zv hf;obtain⟨z,q4,hf⟩:=yz hf;cases hf;refine⟨ρ,ev,S,x,S1,hE,hS,q1,fun v ρ1 H1 E1 hS1 r1=>⟨ρ1,ev,S1,lo,S2,hE.mono E1,hS1,q2,fun ρ2 H2 E2 hS2=>⟨ρ2,ev,S2,hi,_,(hE.mono E1).mono E2,hS2,q3,fun ρ3 H3 E3 hS3=>?_⟩⟩⟩;have r3:=(r1.mono E2).mono E3;have E:=(E1.trans E2).trans E3;cases x with
   | str y=>
     replace q4:(if(zca y lo hi).length<=sizeLine then some (D.str (zca y lo hi))else none)=some d:=q4;split at q4
     · rename_i hn;cases q4;exact⟨y,r3.refS,hn,k _ _ _ E hS3 rfl⟩
     · cases q4
   |_=>cases q4
end
theorem zrf{c:Addr}{q:Str}(h1 h2:Heap)(p:yj c q h1)(k:∀o,h1.get? c=some o->h2.get? c=some o):yj c q h2:=by obtain⟨c',o,vs,t,e,h,r⟩:=p;cases e;exact⟨_,o,vs,t,rfl,k _ h,r⟩
theorem zrg{c:Addr}{q:Str}{h:Heap}(p:yj c q h):∃o,h.get? c=some o:=by obtain⟨c',o,vs,t,e,h,r⟩:=p;cases e;exact⟨_,h⟩
theorem zlv{p:Pos}{a b:Int}{cv x:Value}(l:List Value)(h:TriplesOk l):codeAmong p (l++[rawInt a,rawInt b,cv])=some x->codeAmong p l=some x\/x=cv:=by
 fun_induction TriplesOk l with
 | case1=>
   intro e;simp only[List.nil_append,rawInt,codeAmong]at e;split at e
   · exact .inr (z53 e).symm
   · cases e
 | case2 i t j u c rest ih=>
   intro e;simp only[List.cons_append,codeAmong]at e ⊢;split at e
   · rename_i z;rw[z5g z];exact .inl e
   · rename_i z;rw[z5n z];exact ih h e
 |case3=>exact h.elim
section
variable {X:Cx}{pins:zAO}{σ:L2.St}{H:Hp}{s:Shared}
theorem zn0{P c:Addr}{ps more:Array Value}{q:Str}{h':Heap}{tk:Nat}(I:Inv X pins σ H s)(hP:H P=some (.tbl ps))(hx:Heap.ExtBut P s.heap h')(ht:h'.get? P=some (tabObj (ps++more)))(hge:s.heap.objs.size<=c)(hc:yj c q h') :
   Inv X pins σ (upd (upd H P (.tbl (ps++more))) c (.ext (yj c q))) { s with heap:=h',toks:=tk }:=by
 have hn:H c=none:=I.hok.fresh hge;have hPc:P≠c:=z5h (z4w (I.hok.lt hP) hge);have neP:∀b,H b=none->b≠P:=fun b n z=>by rw[z,hP]at n;cases n
 have nec:∀b u,H b=some u->b≠c:=fun b u e z=>by rw[z,hn]at e;cases e
 have kp:∀b o,s.heap.get? b=some o->b≠P->h'.get? b=some o:=fun b o e n=>hx b o n e;have keepH:∀b u,H b=some u->(∀ps,u≠.tbl ps)->upd (upd H P (.tbl (ps++more))) c (.ext (yj c q)) b=some u:=fun b u e n=>by rw[z0 (nec b u e),z0 (fun z=>by rw[z,hP]at e;cases e;exact n ps rfl)];exact e
 refine I.un ⟨fun b o e n _ _=>kp b o e (neP b n),fun b o e n _ _=>⟨o.slots,kp b o e (neP b n)⟩,fun b o e n _=>?_,fun b o e _=>?_,fun b xs e=>keepH b _ e (fun _ z=>by cases z),fun b o u e=>keepH b _ e (fun _ z=>by cases z),fun b qs e=>?_⟩ fun b u e=>?_
 · have hb:b<s.heap.objs.size:=z5f e;rw[z0 (z5h (z4w hb hge)),z0 (neP b n)];exact n
 · by_cases z:b=P
   · exact⟨_,z▸ht⟩
   · exact⟨o,kp b o e z⟩
 · by_cases z:b=P
   · subst z;rw[hP]at e;cases e;exact⟨more,by rw[z0 hPc,qg]⟩
   · exact⟨#[],by rw[z0 (nec b _ e),z0 z,e];simp⟩
 · by_cases zc:b=c
   · subst zc;rw[qg]at e;cases e;exact⟨hc,zrg hc,fun h1 h2 p k=>zrf h1 h2 p k⟩
   · rw[z0 zc]at e;by_cases z:b=P
     · subst z;rw[qg]at e;cases e;exact ht
     · rw[z0 z]at e;refine(I.hok b u e).stay (fun d o hd w=>?_) (fun d w=>keepH d _ w fun _ y=>by cases y) fun d xs w=>keepH d _ w fun _ y=>by cases y
       refine kp d o w fun y=>?_;rcases hd with rfl | hd
       · exact z y
       · rw[y,hP]at hd;cases hd
theorem zn1{t:LT}{c:Addr}{pm ct:Value}{h':Heap}{tk:Nat}(I:Inv X pins σ H s)(hk:∀b o,s.heap.get? b=some o->h'.get? b=some o)(hsz:s.heap.objs.size<=h'.objs.size) :
   Inv X pins σ (upd H h'.objs.size (.ext (zu1 t h'.objs.size c pm ct))) { s with heap:=h'.push (kla_obj "<lambda>" t.qual t.params t.body t.scope t.cl pm c ct),toks:=tk }:=by
 refine I.laid (t':=tk) (fun b o e=>z4z _ (hk b o e)) hsz ?_;refine⟨z5s _ rfl,⟨_,z5s _ rfl⟩,fun h1 h2 p k=>k _ p⟩
end
def zzt(j:Nat)(x:Str)(t:LT):E:=fun _ S=>match S[j]? with
 |some (.tab x' q)=>if x'=x/\q=t.qual then some (.lam t,S)else none
 |_=>none
def zb6(K:Frag)(mg:zMg)(x:Str)(cdv:Value):Prop:=∃(f:Addr) (o:Obj) (fd:FuncData),mg x=some (.ref f)/\K.lookup f=some o/\o.data=.func fd/\fd.code=cdv
def zl1(base:Heap)(mg:zMg):Prop:=∃(bm:Addr) (o:Obj),mg "__builtins__"=some (.ref bm)/\bm≠builtinsNs/\bm≠mainGlobals/\base.get? bm=some o/\o.cls=.type "module"/\o.dict=some builtinsNs/\o.data=.plain
section
variable {X:Cx}{x:Str}{params:Arguments}{body:Expr}{scope:Scope}{pos:Pos}
theorem zjd{K mg ρ H}{S:Sto}(hS:StOk K mg ρ H S){j:Nat}{P c:Addr}{x q:Str}{ps:Array Value}{a b:Int}(hj:S[j]? = some (.tab x q))(hP:ρ[j]? = some P)(hps:H P=some (.tbl ps))(hn:H c=none) :
   Ext ρ H ρ (upd (upd H P (.tbl (ps++#[rawInt a,rawInt b,.ref c]))) c (.ext (yj c q)))/\StOk K mg ρ (upd (upd H P (.tbl (ps++#[rawInt a,rawInt b,.ref c]))) c (.ext (yj c q))) S:=by
 have cf:c∉ρ:=hS.fresh hn;have hPc:P≠c:=fun z=>cf (z▸z5t hP);have e0:Ext ρ H ρ (upd (upd H P (.tbl (ps++#[rawInt a,rawInt b,.ref c]))) c (.ext (yj c q))) :=
   ⟨fun _ _ e=>e,fun d u e n=>by
     rw[z0 (a:=c) (fun(z:d=c)=>by rw[z,hn]at e;cases e),z0 (a:=P) (fun(z:d=P)=>n (by rw[z];exact z5t hP))];exact e,fun _ z n=>absurd z n⟩
 refine⟨e0,hS.len,hS.nd,fun i m d e1 e2=>?_⟩;by_cases hi:i=j
 · subst hi;rw[hj]at e1;cases e1;rw[hP]at e2;cases e2;obtain⟨T,ps',h1,h2,h3⟩:=hS.ob i _ P hj hP;rw[hps]at h1;cases h1;refine⟨T,_,by rw[z0 hPc,qg],by rw[z5z];exact TriplesOk_snoc a b _ _ h2,fun pos cv z=>?_⟩;rw[z5z]at z;rcases zlv _ h2 z with y | y
   · obtain⟨c',z1,z2,z3⟩:=h3 pos cv y;exact⟨c',z1,z2,e0.keep _ _ z3 z2⟩
   · exact⟨c,y,cf,qg⟩
 · have q:=hS.ob i m d e1 e2;obtain⟨u,z⟩:=q.some;exact q.mono e0 (by rw[z0 (a:=c) (fun(y:d=c)=>by rw[y,hn]at z;cases z),z0 (a:=P) (fun(y:d=P)=>hi (zjq hS.nd (by rw[e2,y]) hP))])
theorem zvh(j:Nat){caps:List Str}{cl:zLA}(hcd:zb6 X.K X.mg x X.env.code)(hb:zl1 X.base X.mg)(hcl:closureFor scope X.env=pure cl)(hdef:defaultsOf params X.env=([],[]):=by rfl) :
   FE X (.Lambda params body scope pos) (zzt j x ⟨params,body,scope,X.env.qual++"<lambda>",caps,cl⟩):=by
 intro pins s σ H Q I h;obtain⟨ρ,ev,S,d,S',hE,hS,hf,k⟩:=h;unfold zzt at hf;split at hf
 · rename_i x' q hj;split at hf
   · rename_i hxq;obtain⟨rfl,rfl⟩:=hxq;cases hf;obtain⟨P,hP,T,ps,hps,htr,hcs⟩:=hS.adr hj;obtain⟨f1,o1,fd1,c1,e1,e2,e3,e4,e5⟩:=T;obtain⟨f2,o2,fd2,g1,g2,g3,g4⟩:=hcd;rw[e1]at g1;cases g1;rw[e2]at g2;cases g2;rw[e3]at g3;cases g3;have hcode:X.env.code=.ref c1:=g4.symm.trans e4;have C:CodeHd s.heap c1 P:=codeHd_of_K I.kIn e5;have hPt:s.heap.get? P=some (tabObj ps):=I.hok P _ hps;have bs:=I.bs;have nP:∀b o,X.base.get? b=some o->b≠P:=fun b o e z=>by have:=(bs b o e).2;rw[z,hps]at this;cases this
     have hg:s.heap.Ns mainGlobals X.mg:=by obtain⟨o,es,ep,ho,r⟩:=I.mod.glob;exact⟨o,es,ep,I.bk _ _ ho,r⟩
     have hgP:mainGlobals≠P:=by obtain⟨o,es,ep,ho,r⟩:=I.mod.glob;exact nP _ _ ho
     obtain⟨bm,ob,b1,b2,b3,b4,b5,b6,b7⟩:=hb;have hBA:s.heap.BuiltinsAt X.mg P:=⟨bm,ob,b1,b2,b3,nP _ _ b4,I.bk _ _ b4,b5,b6,b7⟩
     refine kla_eval hdef ?_;cases hca:codeAmong pos ps.toList with
     | none=>
       refine kla_makeFunction hcl I.ok.glob hg hcode C hPt htr hca hgP hBA fun c' ctv h' tk hx hge hlt hrec htb=>?_;have hn:H c'=none:=I.hok.fresh hge;have I1:=zn0 (q:=X.env.qual++"<lambda>") (tk:=tk) I hps hx htb hge hrec;have I2:=zn1 (t:=⟨params,body,scope,X.env.qual++"<lambda>",caps,cl⟩) (c:=c') (pm:=(X.mg "__name__").getD .none) (ct:=ctv) (h':=h') (tk:=tk) I1 (fun _ _ e=>e) (z4v _);obtain⟨E1,S1⟩:=zjd (a:=pos.line) (b:=pos.col) hS hj hP hps hn;have hf:=I1.hok.fresh (a:=h'.objs.size) (z4v _);have E2:=jl S1 (.ext (zu1 ⟨params,body,scope,X.env.qual++"<lambda>",caps,cl⟩ h'.objs.size c' ((X.mg "__name__").getD .none) ctv)) hf;refine⟨.ref h'.objs.size,_,I2,rfl,k _ ρ _ (E1.trans E2) (S1.new _ hf) ?_⟩;unfold Rep;exact⟨_,rfl,S1.fresh hf,c',_,_,hS.fresh hn,qg,by rw[z0 (z5h hlt),qg]⟩
     | some cv=>
       obtain⟨c',rfl,nc,hc'⟩:=hcs pos cv hca;refine kla_makeFunctionHit hcl I.ok.glob hg hcode C hPt htr hca hBA fun ctv h' tk hk hsz=>?_;have hf:H h'.objs.size=none:=I.hok.fresh hsz;have I2:=zn1 (t:=⟨params,body,scope,X.env.qual++"<lambda>",caps,cl⟩) (c:=c') (pm:=(X.mg "__name__").getD .none) (ct:=ctv) (h':=h') (tk:=tk) I hk hsz;have E2:=jl hS (.ext (zu1 ⟨params,body,scope,X.env.qual++"<lambda>",caps,cl⟩ h'.objs.size c' ((X.mg "__name__").getD .none) ctv)) hf;refine⟨.ref h'.objs.size,_,I2,rfl,k _ ρ _ E2 (hS.new _ hf) ?_⟩;unfold Rep;exact⟨_,rfl,hS.fresh hf,c',_,_,nc,qg,E2.keep _ _ hc' nc⟩
   · cases hf
 · cases hf
end
def ziw(N n:Nat)(f:E):G:=fun ds S=>if ds.length=n then f (ds.map some++List.replicate (N-ds.length) none) S else none
def z3i(t:LT)(a c:Addr)(pm ct:Value)(H:Hp):Prop:=H a=some (.ext (zu1 t a c pm ct))/\H c=some (.ext (yj c t.qual))
section
variable {P:Program}{w:World}{K:Frag}{mg:zMg}{base:Heap}{k:Nat}{t:LT}{N ps:List Str}{f:E}
structure LCal (P:Program) (w:World) (K:Frag) (mg:zMg) (base:Heap) (k:Nat) (t:LT) (g:G):Prop where
 ex:∃ps:List Str,(∀(a c:Addr) (pm ct:Value),FnOk P w K mg base CX0 k a (kla_fn "<lambda>" t.qual t.params t.body t.scope [] pm (.ref c) ct) ps (fun vs H Q E=>z3i t a c pm ct H/\spG K mg g vs H Q E)) /\
   ∀(c:Addr) (pm ct:Value),Binds K (kla_fn "<lambda>" t.qual t.params t.body t.scope [] pm (.ref c) ct) ps []
theorem LCal.mono{j:Nat}{g:G}(c:LCal P w K mg base j t g)(h:j<=k):LCal P w K mg base k t g :=
 let⟨ps,F,b⟩:=c.ex;⟨ps,fun a c pm ct=>(F a c pm ct).mono h,b⟩
end
def zag(ft:Str->Option G)(lt:LT->Option G)(f:E)(a:As):E:=fun ev S=>(f ev S).bind fun p=>match p.1 with
 | .fn x=>(ft x).bind fun g=>(a ev p.2).bind fun q=>g q.1 q.2
 | .lam t=>(lt t).bind fun g=>(a ev p.2).bind fun q=>g q.1 q.2
 |_=>none
section
variable {X:Cx}{k:Nat}{f:E}{a:As}{e:Expr}{es:List Expr}{pos:Pos}
theorem za9{fe:Expr}{ft:Str->Option G}{lt:LT->Option G}(hT:∀x g,ft x=some g->Cal X.prog X.w X.K X.mg X.base k x g)(hL:∀t g,lt t=some g->LCal X.prog X.w X.K X.mg X.base k t g)(hr:Room k X.A)(hf:FE X fe f)(ha:FA X (e::es) a)
   (ht:eval (.Call fe (e::es) [] pos) X.env=(eval fe X.env >>= fun v=>callWith pos v [] (backTo pos (starEach (e::es) X.env)) (backToKw pos (keywordEach [] X.env))):=by rfl)
   (he:starEach (e::es) X.env=(false,eval e X.env)::starEach es X.env:=by exact zy rfl) (hpl:(backTo pos (starEach es X.env)).any (·.1)=false:=by exact qx rfl) :
   FE X (.Call fe (e::es) [] pos) (zag ft lt f a):=by
 intro pins s σ H Q I h;obtain⟨ρ,ev,S,d,S',hE,hS,hf',kk⟩:=h;obtain⟨⟨y,S1⟩,q1,hf'⟩:=zv hf';cases y with
 | fn x=>
   refine zq5 (ft:=ft) hT hr hf ha ht he hpl pins s σ H Q I ⟨ρ,ev,S,d,S',hE,hS,?_,kk⟩;unfold zs3;rw[q1];exact hf'
 | lam t=>
   rw[ht];dsimp only at hf';obtain⟨g,hx,hf'⟩:=zv hf';obtain⟨⟨ds,S2⟩,q2,hf'⟩:=zv hf';obtain⟨ps,F,hb⟩:=(hL t g hx).ex;refine z4u (thn (hf pins s σ H (fun v H1=>∃ρ1 a0,v=.ref a0/\Ext ρ H ρ1 H1/\StOk X.K X.mg ρ1 H1 S1/\LamAt ρ1 H1 t a0) I ⟨ρ,ev,S,_,S1,hE,hS,q1,fun v ρ1 H1 E1 hS1 r1=>?_⟩) fun u s1 ⟨v,H1,I1,rv,ρ1,a0,ev1,E1,hS1,L1⟩=>?_)
   · unfold Rep at r1;obtain⟨b,rfl,L⟩:=r1;exact⟨ρ1,b,rfl,E1,hS1,L⟩
   · subst ev1;obtain rfl:u=Value.ref a0:=rv;obtain⟨n0,c,pm,ct,nc,hA,hC⟩:=L1;have at_:∀{H':Hp}{s':Shared},Inv X pins σ H' s'->H' a0=some (.ext (zu1 t a0 c pm ct))->FnAt a0 s'.heap:=fun J e=>⟨_,_,_,_,(J.hok a0 _ e).1⟩
     refine callWith_F (at_ I1 hA) (thn (ha pos pins s1 σ H1 (fun vs H2=>(H2 a0=some (.ext (zu1 t a0 c pm ct)))/\(z3i t a0 c pm ct H2/\spG X.K X.mg g vs H2 Q E0)) I1 ⟨ρ1,ev,S1,ds,S2,hE.mono E1,hS1,q2,fun vs ρ2 H2 E2 hS2 r2=>?_⟩) fun us s2 ⟨vs,H2,I2,r,hA2,q2⟩=>⟨at_ I2 hA2,?_⟩) he hpl
     · have h1:=E2.keep _ _ hA n0;have h2:=E2.keep _ _ hC nc;exact⟨h1,⟨h1,h2⟩,ρ2,ds,S2,d,S',r2,hS2,hf',fun v ρ' H' E' hS' r'=>kk v ρ' H' ((E1.trans E2).trans E') hS' r'⟩
     · exact zgq (ds:=[]) (dvs:=[]) (F a0 c pm ct) hr (hb c pm ct) .nil zk4 I2 r (by rw[z5q];exact q2)
 |_=>cases hf'
end
end F
namespace F
open PySem L2 PySem.Spec PyProof.Rows PySem.W
def zth(tabs:List (Str×Str))(g:G):Prop:=∀ns:List Int,ns.length<=63->∃S,g [.lst (ns.map D.int)] (tabs.map fun p=>MO.tab p.1 p.2)=some (.bl true,S)
def H0(ts:List Addr)(so:Option (Addr×HO)):Hp:=fun b=>if b∈ts then some (.tbl #[])else match so with
 |some (a,o)=>if b=a then some o else none
 |none=>none
theorem zgx{as:List Addr}:∀{K:Frag}{P:Addr},as=K.map (·.1)->P∉as->K.lookup P=none
 | [],_,_,_=>rfl
 | (b,o)::K,P,e,h=>by
   subst e;rw[z5a,z46,not_or]at h;have hb:(P==b)=false:=by simpa using h.1
   simp only[List.lookup,hb];exact zgx rfl h.2
section
variable {P:Program}{w:World}{K:Frag}{mg mb:zMg}{k:Nat}{fa a:Addr}{fd:FuncData}{x:Str}{sp:Sp}{s₁:Shared}{vs:List Value}{ns:List Int}{ts:List Addr}
theorem znt(KX:K.In s₁.heap)(hns:s₁.heap.Ns mainGlobals mg)(hb:s₁.heap.Ns builtinsNs mb)(hbb:∀x:Str,x≠"__name__"->mb x=bootBuiltins x)(hlim:s₁.heap.NoLimit)(hg:s₁.gens=#[])
   (ha:s₁.heap.get? a=some { cls:=.type "list",data:=.seq vs.toArray }) (hi:IntsAre vs ns) (hl:ns.length<=sizeLine) (hr:Room k callerA)
   (hts:∀Q∈ts,s₁.heap.get? Q=some (tabObj #[])/\K.lookup Q=none/\isCodeTable s₁.heap Q)
   (hbm:zl1 s₁.heap mg) (F:∀base:Heap,K.In base->base.Ns mainGlobals mg->zl1 base mg->FnOk P w K mg base CX0 k fa fd [x] sp) (hbind:∀(s:Shared) (u:Value),BindsTo s fd ⟨[u],[]⟩ [(x,u)])
   (hsp:∀so:Option (Addr×HO),a∉ts->SqL K (H0 ts so) a (ns.map V.int)->sp [.ref a] (H0 ts so) (fun v _=>v=.bl true) fun _ _ _=>False) :
   codeAny (model P w) callerA (.call (.ref fa) ⟨[.ref a],[]⟩) (fun r s'=>r=.ok (.ret (.bool true))/\OldK s₁.heap s'.heap/\s'.os=s₁.os/\AllBare s'.gens) s₁:=by
 have rv:=zgm hi;have lenV:=hi.length;have nat:a∉ts:=fun z=>by have e:=(hts a z).1;rw[ha]at e;cases e
 have core:∀so:Option (Addr×HO),(∀b o,so=some (b,o)->b=a/\K.lookup a=none/\o=.frz { cls:=.type "list",data:=.seq vs.toArray } (.lst (ns.map V.int)))->SqL K (H0 ts so) a (ns.map V.int) ->
     codeAny (model P w) callerA (.call (.ref fa) ⟨[.ref a],[]⟩) (fun r s'=>r=.ok (.ret (.bool true))/\OldK s₁.heap s'.heap/\s'.os=s₁.os/\AllBare s'.gens) s₁:=by
   intro so hso hS;have cases3:∀b,H0 ts so b=none\/(b∈ts/\H0 ts so b=some (.tbl #[]))\/(b=a/\K.lookup a=none/\H0 ts so b=some (.frz { cls:=.type "list",data:=.seq vs.toArray } (.lst (ns.map V.int)))):=fun b=>by
     by_cases z:b∈ts
     · exact .inr (.inl ⟨z,z5g z⟩)
     · cases so with
       |none=>exact .inl (z5n z)
       | some p=>
         obtain⟨c,o⟩:=p;obtain⟨h1,h2,h3⟩:=hso c o rfl;by_cases y:b=c
         · refine .inr (.inr ⟨y.trans h1,h2,?_⟩);unfold H0;rw[z5n z];show(if b=c then some o else none)=_;rw[z5g y,h3]
         · refine .inl ?_;unfold H0;rw[z5n z];exact z5n y
   have hok:HOk P w (H0 ts so) s₁.heap:=fun b u e=>by
     rcases cases3 b with q | ⟨q1,q2⟩ | ⟨rfl,_,q2⟩
     · rw[q]at e;cases e
     · rw[q2]at e;cases e;exact(hts b q1).1
     · rw[q2]at e;cases e;exact⟨ha,by rw[z56];exact hl,vs,_,rv,ha⟩
   have free:∀{b:Addr}{o:Obj}{es:Array DictEntry}{ep:Nat},s₁.heap.get? b=some o->o.data=.dict es ep->H0 ts so b=none:=fun {b o es ep} e d=>by
     rcases cases3 b with q | ⟨q1,_⟩ | ⟨rfl,_,_⟩
     · exact q
     · rw[(hts b q1).1]at e;cases e;cases d
     · rw[ha]at e;cases e;cases d
   have nsK:∀{b:Addr}{m:zMg},s₁.heap.Ns b m->(zqv s₁.heap (H0 ts so)).Ns b m:=fun⟨o,es,ep,e,d,r⟩=>⟨o,es,ep,zfv e (free e d),d,r⟩
   have hKb:K.In (zqv s₁.heap (H0 ts so)):=fun b o e=>zfv (KX b o e) (by
     rcases cases3 b with q | ⟨q1,_⟩ | ⟨rfl,q1,_⟩
     · exact q
     · rw[(hts b q1).2.1]at e;cases e
     · rw[q1]at e;cases e)
   have hM:Mod K mg (zqv s₁.heap (H0 ts so)):=⟨hKb,nsK hns,⟨mb,nsK hb,hbb⟩,let⟨mc,h1,h2⟩:=hlim;⟨mc,nsK h1,h2⟩⟩
   have e0:Env0 P w K mg (zqv s₁.heap (H0 ts so)) callerA [] s₁ (H0 ts so):=⟨rfl,hM,fun b o e=>zuu e,Nat.le_of_eq (zn4 _ _),trivial,fun b hb=>absurd (show b∈([]:List Addr)from hb) (by simp),hok,.of_eq hg⟩
   have hB:zl1 (zqv s₁.heap (H0 ts so)) mg:=by
     obtain⟨bm,ob,b1,b2,b3,b4,b5,b6,b7⟩:=hbm;refine⟨bm,ob,b1,b2,b3,zfv b4 ?_,b5,b6,b7⟩;rcases cases3 bm with q | ⟨q1,_⟩ | ⟨rfl,_,_⟩
     · exact q
     · rw[(hts bm q1).1]at b4;cases b4;cases b7
     · rw[ha]at b4;cases b4;cases b7
   refine z8p ((F _ hKb (nsK hns) hB).run callerA [] s₁ (H0 ts so) ⟨[.ref a],[]⟩ [.ref a] [.ref a] _ _ hr e0 (hbind s₁ (.ref a)) (.cons rfl .nil) (hsp so nat hS)) fun r s' h=>?_;cases r with
   |error e=>exact False.elim h
   | ok fl=>
     cases fl with
     |next=>exact False.elim h
     |brk=>exact False.elim h
     |cont=>exact False.elim h
     | ret u=>
       obtain⟨v,H',os,bare,un,hok',r',q⟩:=h;obtain rfl:v=.bl true:=q;obtain rfl:u=Value.bool true:=r';refine⟨rfl,⟨fun b o e=>?_,fun b o e=>un.there b o e (by simp)⟩,os,bare⟩;rcases cases3 b with q | ⟨q1,q2⟩ | ⟨_,_,q2⟩
       · exact .inl (un.keep b o e q (fun z=>absurd (show b∈([]:List Addr)from z) (by simp)) (by simp))
       · obtain⟨more,z⟩:=un.tbls b _ q2;have e1:=(hts b q1).1;rw[e]at e1;cases e1;exact .inr (.inl ⟨(hts b q1).2.2,rfl,#[],more,rfl,hok' b _ z⟩)
       · have z:=un.frzs b _ _ q2;obtain⟨e1,_⟩:=hok b _ q2;obtain⟨e2,_⟩:=hok' b _ z;rw[e]at e1;cases e1;exact .inl e2
 cases hk:K.lookup a with
 | some o=>
   have e:=KX a o hk;rw[ha]at e;cases e;exact core none (fun b o z=>by cases z) (.inr ⟨_,vs.toArray,_,hk,rfl,rfl,rfl,by rw[z45,lenV];exact hl,by simpa using rv⟩)
 | none=>
   refine core (some (a,.frz { cls:=.type "list",data:=.seq vs.toArray } (.lst (ns.map V.int)))) (fun b o z=>by cases z;exact⟨rfl,hk,rfl⟩) (.inl (.inr ⟨{ cls:=.type "list",data:=.seq vs.toArray },?_⟩));unfold H0;rw[z5n nat];exact z5g rfl
end
theorem zlo{K:Frag}{h:Heap}{c Q:Addr}(X:K.In h)(e:codeHdIn K c Q=true):isCodeTable h Q:=by obtain⟨o,vs,_,_,_,_,_,_,_,h1,h2,h3,h4,_⟩:=codeHd_of_K X e;exact⟨c,o,vs,h1,h2,h3,h4⟩
theorem law_walkT{l:OpenLaw}{q:Program}{loose:List Str}{XP:(zMg)->Heap->Prop}{d:DefRec}{K:Params->Frag}{as:List Addr}{e:∀P,as=(K P).map (·.1)}{ts:List Addr}{k:Nat}{g:G}{x:Str}(tabs:List (Str×Str))
   (hn:l.most=some 63) (hdf:d.params.defaults=[]) (hr:Room k callerA) (hts:ts.Nodup) (has:∀Q∈ts,Q∉as) (hlen:ts.length=tabs.length) (hg:zth tabs g)
   (F:∀(w:World) (mg:zMg) (fa:Addr) (h:Heap),(K w.params).In h->h.Ns mainGlobals mg->mg d.name=some (.ref fa) ->
     (∀(i:Nat) (p:Str×Str) (Q:Addr),tabs[i]? = some p->ts[i]? = some Q->zvx (K w.params) mg p.1 Q) /\
     ∃fd:FuncData,(∀(s:Shared) (u:Value),BindsTo s fd ⟨[u],[]⟩ [(x,u)])/\∀base:Heap,(K w.params).In base->base.Ns mainGlobals mg->zl1 base mg->FnOk l.prog w (K w.params) mg base CX0 k fa fd [x] (spG (K w.params) mg g)) :
   WalkO q loose XP (kmHook K as e ts).says l.row.toRowW d [] (fun f vs=>PySem.call f vs):=by
 refine Att.attach_call hn hdf fun w s₀ s₁ mg mb fa o pm cd doc a vs ns G Y ho hd hcd hmg hobj hints hlen' hg'=>?_;have KX:=km_in_of Y;have TX:=km_tabs_of Y;obtain⟨T,fd,hb,hF⟩:=F w mg fa _ KX G.T.g hmg;have hbm:zl1 s₁.heap mg:=by obtain⟨bm,ob,b1,b2,b3,b4,b5,b6⟩:=G.T.bmain;refine⟨bm,ob,b1,b2,fun q=>?_,b3,b4,b5,b6⟩;obtain⟨o,es,ep,e,hd,_⟩:=G.T.g;rw[q,e]at b3;cases b3;rw[hd]at b6;cases b6
 refine znt (k:=k) (fd:=fd) (x:=x) (ts:=ts) (sp:=spG (K w.params) mg g) KX G.T.g G.T.b G.T.builtins G.T.nolimit hg' hobj hints (z5j hlen' (by decide)) hr (fun Q hQ=>⟨TX Q hQ,zgx (e w.params) (has Q hQ),?_⟩) hbm hF hb fun so nat hS=>?_
 · obtain⟨i,hi,ei⟩:=z5p hQ;obtain⟨f,o,fd,c,_,_,_,_,z⟩:=T i (tabs[i]'(by omega)) Q (z4x (by omega)) (by rw[z4x hi,ei]);exact zlo KX z
 · obtain⟨S,hS'⟩:=hg ns hlen';have tb:∀Q∈ts,H0 ts so Q=some (.tbl #[]):=fun Q hQ=>z5g hQ;refine⟨ts,[.lst (ns.map D.int)],tabs.map fun p=>MO.tab p.1 p.2,.bl true,S,?_,⟨by rw[z56];exact hlen,hts,fun i m b e1 e2=>?_⟩,hS',fun v ρ' H' _ _ r=>by rw[show v=.bl true from r]⟩
   · refine RepL.cons ?_ RepL.nil;unfold Rep;refine⟨a,ns.map V.int,rfl,?_,zjh ns⟩;rcases hS with hS | hS
     · exact .inl ⟨nat,hS⟩
     · exact .inr hS
   · rw[z54]at e1;cases hp:tabs[i]? with
     |none=>rw[hp]at e1;cases e1
     | some p=>
       rw[hp]at e1;cases e1;exact⟨T i p b hp e2,#[],tb b (z5t e2),trivial,fun pos cv z=>by cases z⟩
section
variable {P:Program}{w:World}{K:Frag}{mg:zMg}{base:Heap}{x qual:Str}{st:Stmt}{N ps:List Str}{k:Nat}{b:C}{dV:Value}{f:Addr}{fd:FuncData}
theorem FunD.code(F:FunD K x qual st f fd dV){y:Str}(hm:mg y=some (.ref f)):zb6 K mg y fd.code:=by obtain⟨oc,od,kV,doc,pm,an,cdv,ct,osl,rfl,lk,hcd⟩:=F.ex;exact⟨f,_,_,hm,lk,rfl,rfl⟩
theorem FunD.okL(F:FunD K x qual st f fd dV){y:Str}(hm:mg y=some (.ref f))(S:FnScope N ps (zh st))
   (hbody:∀(cdv:Value),zb6 K mg y cdv->∀(A:Around) (outer:List Env) (s:Shared) (H:Hp) (E:XK),Room k (A.deeper (envOfC qual (zh st) s.heap.objs.size f cdv)) ->
     FSs (zbp CX0 P w K mg base N qual (zh st) f cdv A outer s H E).nox (jb st) b):FnOk P w K mg base CX0 (k+1) f fd ps (spG K mg (z5 N.length ps.length b)):=by
 have co:=F.code hm;obtain⟨oc,od,kV,doc,pm,an,cdv,ct,osl,rfl,lk,hcd⟩:=F.ex;refine zqy lk hcd S (fun vs H Q E h=>?_) fun A outer s H vs Q E hr hsp=>?_
 · obtain⟨ρ,ds,S,d,S',r,hS,hf,k⟩:=h;rw[<-r.length];exact zd8 hf
 · exact⟨_,(hbody cdv co A outer s H E hr).nox,ziv hsp⟩
abbrev z2y(P:Program)(w:World)(K:Frag)(mg:zMg)(base:Heap)(N:List Str)(x qual:Str)(st:Stmt)(k:Nat)(b:C):Prop :=
 ∀(f:Addr) (cdv:Value),zb6 K mg x cdv->∀(A:Around) (outer:List Env) (s:Shared) (H:Hp) (E:XK),Room k (A.deeper (envOfC qual (zh st) s.heap.objs.size f cdv)) ->
     FSs (zbp CX0 P w K mg base N qual (zh st) f cdv A outer s H E).nox (jb st) b
theorem HasDef.calL(h:HasDef K mg x st 0)(S:FnScope N ps (zh st))(hb:zti x x st ps)(hbody:z2y P w K mg base N x x st k b):Cal P w K mg base (k+1) x (z5 N.length ps.length b):=by obtain⟨f,fd,dV,F,hm,rfl⟩:=h.ex;exact⟨f,fd,ps,[],[],[],_,F.okL hm S fun cdv co A outer s H E hr=>hbody f cdv co A outer s H E hr,hm,F.kp,F.binds0 hb,.nil,fun _ _=>RepL.nil,fun args S r e=>by rw[z5q];exact e⟩
end
section
variable {K:Frag}{h:Heap}{mg:zMg} (X:K.In h) (G:h.Ns mainGlobals mg)
include X G
theorem has_tab{x:Str}{st:Stmt}{f c Q:Addr}{oc:Value}{od an:Option Addr}{osl:Array (Option Value)}{dV kV doc pm ct:Value}(a:nsIn K mainGlobals x=some (some (.ref f)))
   (l:K.lookup f=some ⟨oc,od,.func (fnOf x x (zbj st) (jb st) (zh st) dV kV doc pm an (.ref c) ct),osl⟩) (z:codeHdIn K c Q=true):zvx K mg x Q :=
 ⟨f,_,_,c,mg_of X G a,l,rfl,rfl,z⟩
end
end F
namespace F
open PySem L2 PySem.Spec PySem.Calls PyProof.Rows PySem.W
def cxC(P:Program)(w:World)(K:Frag)(mg:zMg)(base:Heap)(N:List Str)(qual:Str)(scope:Scope)(f:Addr)(cd:Value)(cl:zLA)(A:Around)(outer:List Env)(s:Shared)(H H1:Hp)(E:XK):Cx where
 prog:=P
 w:=w
 K:=K
 mg:=mg
 base:=base
 A:=A.deeper (envX qual scope s.heap.objs.size f cd cl)
 N:=N
 s₀:=s
 H₀:=H1
 env:=envX qual scope s.heap.objs.size f cd cl
 outer:=outer
 stack:=envX qual scope s.heap.objs.size f cd cl::outer
 ex:=[]
 calm:=true
 fn:=fun _=>false
 pn:=[]
 xe:=fun e s'=>wpAny (model P w) (A.deeper (envX qual scope s.heap.objs.size f cd cl)) (leaving (envX qual scope s.heap.objs.size f cd cl) e) (fun _ s''=>CX0 outer H s E e s'') (fun e' s''=>CX0 outer H s E e' s'') s'
def zba(H:Hp)(cl:zLA):Hp:=fun b=>if b∈cl.map (·.2)then none else H b
theorem zcc{H:Hp}{cl:zLA}{b:Addr}(h:b∈cl.map (·.2)):zba H cl b=none:=z5g h
theorem jg{H:Hp}{cl:zLA}{b:Addr}(h:b∉cl.map (·.2)):zba H cl b=H b:=z5n h
theorem Cells.at{ρ:List Addr}{H:Hp}:∀{xs:List Str}{us:List V}{cl:zLA},Cells ρ H xs us cl->∀b∈cl.map (·.2),∃o w,H b=some (.frz o (.own 0))/\o.data=.cell (some w)
 | [],[],[],_,b,hb=>by cases hb
 | x::xs,u::us,p::cl,h,b,hb=>by
   rw[z5a]at hb;rcases z46.mp hb with rfl | hb
   · obtain⟨_,_,⟨o,w,h3,h4,_⟩,_⟩:=h;exact⟨o,w,h3,h4⟩
   · exact Cells.at h.2.2.2 b hb
 | [],[],_::_,h,_,_=>h.elim
 | [],_::_,_,h,_,_=>h.elim
 |_::_,[],_,h,_,_=>h.elim
 |_::_,_::_,[],h,_,_=>h.elim
theorem zig{P:Program}{w:World}{H:Hp}{h:Heap}{cl:zLA}(x:HOk P w H h)(hc:∀b∈cl.map (·.2),∃o,H b=some (.frz o (.own 0))):HOk P w (zba H cl) h:=fun b u e=>by
 by_cases z:b∈cl.map (·.2)
 · rw[zcc z]at e;cases e
 · rw[jg z]at e;refine(x b u e).stay (fun _ _ _ q=>q) (fun d q=>?_) fun d xs q=>?_
   · rw[jg (fun y=>by obtain⟨o,y'⟩:=hc d y;rw[q]at y';cases y')];exact q
   · rw[jg (fun y=>by obtain⟨o,y'⟩:=hc d y;rw[q]at y';cases y')];exact q
theorem kh{H:Hp}{cl:zLA}{b:Addr}(h:H b=none):zba H cl b=none:=by
 unfold zba;split
 · rfl
 · exact h
theorem Cells.names{ρ:List Addr}{H:Hp}:∀{xs:List Str}{us:List V}{cl:zLA},Cells ρ H xs us cl->cl.map (·.1)=xs/\us.length=xs.length
 | [],[],[],_=>⟨rfl,rfl⟩
 | x::xs,u::us,p::cl,h=>by obtain⟨h1,h2⟩:=Cells.names h.2.2.2;exact⟨by rw[z5a,h1,h.1],by rw[List.length_cons,List.length_cons,h2]⟩
 | [],[],_::_,h=>h.elim
 | [],_::_,_,h=>h.elim
 |_::_,[],_,h=>h.elim
 |_::_,_::_,[],h=>h.elim
theorem Cells.get{ρ:List Addr}{H:Hp}:∀{xs:List Str}{us:List V}{cl:zLA},Cells ρ H xs us cl->xs.Nodup->∀(i:Nat) (x:Str) (u:V),xs[i]? = some x->us[i]? = some u->∃b o w,cl.lookup x=some b/\H b=some (.frz o (.own 0))/\o.data=.cell (some w)/\RelV u w
 | x::xs,u::us,p::cl,h,nd,0,y,v,e1,e2=>by cases e1;cases e2;obtain⟨h1,_,⟨o,w,h3,h4,h5⟩,_⟩:=h;exact⟨p.2,o,w,by obtain⟨a,b⟩:=p;subst h1;simp[List.lookup],h3,h4,h5⟩
 | x::xs,u::us,p::cl,h,nd,i+1,y,v,e1,e2=>by
   obtain⟨b,o,w,z1,z2⟩:=Cells.get h.2.2.2 (z7l.mp nd).2 i y v e1 e2;have ne:(y==p.1)=false:=by rw[h.1];refine beq_false_of_ne fun z=>(z7l.mp nd).1 ?_;rw[<-z];exact z5t e1
   refine⟨b,o,w,?_,z2⟩;obtain⟨a,c⟩:=p;simp only[List.lookup,ne];exact z1
 | [],[],[],_,_,_,_,_,e1,_=>by cases e1
 | [],[],_::_,h,_,_,_,_,_,_=>h.elim
 | [],_::_,_,h,_,_,_,_,_,_=>h.elim
 |_::_,[],_,h,_,_,_,_,_,_=>h.elim
 |_::_,_::_,[],h,_,_,_,_,_,_=>h.elim
structure CloScope (ps caps:List Str) (sc:Scope):Prop where
 kind:sc.kind=.function
 co:sc.isCoroutine=false
 gen:sc.isGenerator=false
 nd:(ps++caps).Nodup
 par:∀x∈ps,sc.names.lookup x=some .local
 cap:∀x∈caps,sc.names.lookup x=some .free
 nocell:∀y∈sc.names,y.2≠.cell
 fre:∀y∈sc.names,y.2=.free->y.1∈caps
theorem zeq:∀{ps:List Str}{us:List Value}{i:Nat}{x:Str}{u:Value},ps.Nodup->ps[i]? = some x->us[i]? = some u->(ps.zip us).reverse.lookup x=some u
 | [],_,_,_,_,_,e,_=>by cases e
 |p::ps,[],i,x,u,_,_,e=>by cases e
 | p::ps,w::us,i,x,u,nd,e1,e2=>by
   rw[List.zip_cons_cons,z8g,List.lookup_append];cases i with
   | zero=>
     cases e1;cases e2;have:(ps.zip us).reverse.lookup p=none:=by rw[List.lookup_eq_none_iff];intro q hq;have:=(z7m (a:=q.1) (b:=q.2) (z73.mp hq)).1;simpa using fun(z:p=q.1)=>(z7l.mp nd).1 (z▸this)
     rw[this];simp[List.lookup]
   | succ i=>
     rw[zeq (z7l.mp nd).2 e1 e2];rfl
theorem zlg{P:Program}{w:World}{K:Frag}{mg:zMg}{base:Heap}{ps caps:List Str}{qual:Str}{scope:Scope}{f:Addr}{cd:Value}{cl:zLA}{A:Around}{outer:List Env}{s:Shared}{H:Hp}{E:XK}{us:List Value}{vs cs:List V}{ρ:List Addr}{h':Heap}{tk:Nat}
   (S:CloScope ps caps scope) (hd:A.handled=none) (e0:Env0 P w K mg base A outer s H) (hl:vs.length=ps.length) (r:Vals vs us) (hc:Cells ρ H caps cs cl) (hcn:(cl.map (·.2)).Nodup)
   (hns:h'.Ns s.heap.objs.size (fun x=>(ps.zip us).reverse.lookup x)) (hk:∀b o,s.heap.get? b=some o->h'.get? b=some o) :
   Inv (cxC P w K mg base (ps++caps) qual scope f cd cl A outer s H (zba H cl) E) [] ((vs++cs).map some) (zba H cl) { s with heap:=h',toks:=tk }:=by
 have noA:∀b:Addr,b∉(cxC P w K mg base (ps++caps) qual scope f cd cl A outer s H (zba H cl) E).ex:=fun b z=>absurd (show b∈([]:List Addr)from z) (by simp);have hnm:=hc.names;have mem:∀{x:Str}{c:Addr},cl.lookup x=some c->(x,c)∈cl:=fun h=>mem_of_lookup_some h;have hcf:∀b∈cl.map (·.2),∃o,H b=some (.frz o (.own 0)):=fun b hb=>let⟨o,_,h1,_⟩:=hc.at b hb;⟨o,h1⟩;refine⟨⟨e0.mod,S.kind,rfl,rfl,z4v _,fun y z c h1 h2=>?_,fun y hy=>?_,fun y c h _=>(by cases h),fun _=>hd,Around.frames_deeper e0.frames,.inr ⟨rfl,rfl⟩,fun b z=>absurd z (noA b),fun b o e=>⟨(e0.bs b o e).1,kh (e0.bs b o e).2⟩,e0.bsz,fun b _ _=>noA b,fun b z=>absurd z (noA b),e0.funs,fun b hb=>kh (e0.frf b hb)⟩,
   rfl,e0.bare,Un.kept hk,⟨_,hns,fun i y v h1 h2 h3=>?_⟩,fun y c h=>?_,kh (e0.hok.fresh (z4v _)),fun y c h=>zcc (z6q (mem h)),fun p hp=>absurd (show p∈([]:zAO)from hp) (by simp),(zig e0.hok hcf).kept hk,?_⟩
 · have m1:=mem h1;have m2:=mem h2;obtain⟨i,hi,ei⟩:=z5p m1;obtain⟨j,hj,ej⟩:=z5p m2;have:i=j:=(z98 (i:=i) (j:=j) (h₀:=by simpa using hi) (h₁:=by simpa using hj) hcn).mp (by simp[ei,ej]);subst this;rw[ei]at ej;exact z64 Prod.fst ej
 · have hy:scope.names.lookup y=some .cell\/scope.names.lookup y=some .free:=hy;rcases hy with hy | hy
   · exact absurd rfl (S.nocell _ (z65 hy))
   · have hm:y∈caps:=S.fre _ (z65 hy) rfl;obtain⟨i,hi,ei⟩:=z5p hm;obtain⟨b,o,w,z,_⟩:=hc.get ((z85.mp S.nd).2.1) i y (cs[i]'(by omega)) (by rw[z4x hi,ei]) (z4x _);exact⟨b,z⟩
 · rw[z54]at h2;have h1:(ps++caps)[i]? = some y:=h1;by_cases hi:i<ps.length
   · rw[z5v hi]at h1;rw[z5v (by omega)]at h2;cases hv:vs[i]? with
     |none=>rw[hv]at h2;cases h2
     | some a=>
       rw[hv]at h2;cases h2;obtain⟨u,hu,ru⟩:=r.get hv;exact⟨u,ru,.inl ⟨S.par y (z5t h1),zeq (z85.mp S.nd).1 h1 hu⟩⟩
   · rw[z5i (by omega)]at h1;rw[z5i (by omega),hl]at h2;cases hv:cs[i-ps.length]? with
     |none=>rw[hv]at h2;cases h2
     | some a=>
       rw[hv]at h2;cases h2;obtain⟨b,o,w,z1,z2,z3,z4⟩:=hc.get (z85.mp S.nd).2.1 _ y _ h1 hv;exact⟨w,z4,.inr ⟨.inr (S.cap y (z5t h1)),b,z1,o,hk _ _ (e0.hok b _ z2).1,z3⟩⟩
 · obtain⟨o,w,z2,z3⟩:=hc.at c (z6q (mem h));exact⟨some w,o,hk _ _ (e0.hok c _ z2).1,z3⟩
 · show((vs++cs).map some).length=(ps++caps).length;rw[z56,z4t,z4t,hl,hnm.2]
def onC(H H0:Hp)(cl:zLA):Hp:=fun b=>if b∈cl.map (·.2)then H0 b else H b
theorem zbt{H H0:Hp}{cl:zLA}{b:Addr}(h:b∈cl.map (·.2)):onC H H0 cl b=H0 b:=z5g h
theorem qp{H H0:Hp}{cl:zLA}{b:Addr}(h:b∉cl.map (·.2)):onC H H0 cl b=H b:=z5n h
theorem z06{fs:List Addr}{H H':Hp}{h h':Heap}{cl:zLA}(u:Un fs [] (zba H cl) H' h h')(hc:∀b∈cl.map (·.2),∃o,H b=some (.frz o (.own 0))):Un fs [] H (onC H' H cl) h h':=by
 have out:∀b,H b=none->b∉cl.map (·.2):=fun b n z=>by obtain⟨o,y⟩:=hc b z;rw[n]at y;cases y
 refine⟨fun b o e n hb hx=>u.keep b o e (kh n) hb hx,fun b o e n hb hx=>u.slot b o e (kh n) hb hx,fun b o e n hx=>?_,u.there,fun b xs e=>?_,fun b o v e=>?_,fun b ps e=>?_⟩
 · rw[qp (out b n)];exact u.free b o e (kh n) hx
 · have z:b∉cl.map (·.2):=fun z=>by obtain⟨o,y⟩:=hc b z;rw[e]at y;cases y
   rw[qp z];exact u.tups b xs (by rw[jg z];exact e)
 · by_cases z:b∈cl.map (·.2)
   · rw[zbt z];exact e
   · rw[qp z];exact u.frzs b o v (by rw[jg z];exact e)
 · have z:b∉cl.map (·.2):=fun z=>by obtain⟨o,y⟩:=hc b z;rw[e]at y;cases y
   obtain⟨more,q⟩:=u.tbls b ps (by rw[jg z];exact e);exact⟨more,by rw[qp z];exact q⟩
theorem zyw{P:Program}{w:World}{fs:List Addr}{H H':Hp}{h h':Heap}{cl:zLA}(u:Un fs [] (zba H cl) H' h h')(x0:HOk P w H h)(x:HOk P w H' h')(hc:∀b∈cl.map (·.2),(∃o,H b=some (.frz o (.own 0)))/\b∉fs):HOk P w (onC H' H cl) h':=fun b v e=>by
 have nn:∀d∈cl.map (·.2),H' d=none:=fun d hd=>by obtain⟨⟨o,z⟩,_⟩:=hc d hd;exact u.free d o (x0 d _ z).1 (zcc hd) (by simp)
 by_cases z:b∈cl.map (·.2)
 · rw[zbt z]at e;obtain⟨⟨o,y⟩,nf⟩:=hc b z;rw[y]at e;cases e;have:=u.keep b o (x0 b _ y).1 (zcc z) nf (by simp);exact⟨this,⟨o,this⟩⟩
 · rw[qp z]at e;refine(x b v e).stay (fun _ _ _ q=>q) (fun d q=>?_) fun d xs q=>?_
   · rw[qp (fun y=>by rw[nn d y]at q;cases q)];exact q
   · rw[qp (fun y=>by rw[nn d y]at q;cases q)];exact q
mutual
def noC:D->Bool
 | .tup ds=>noCL ds
 | .lst ds=>noCL ds
 | .clo _ _=>false
 |_=>true
def noCL:List D->Bool
 | []=>true
 |d::ds=>noC d&&noCL ds
end
def z0l:MO->Bool
 | .lst ds=>noCL ds
 | .ins _ fs=>noCL (fs.map (·.2))
 | .dct kvs=>noCL (kvs.map (·.2))
 | .exc _=>true
 | .tab _ _=>true
def zb7(S:Sto):Bool:=S.all z0l
section
variable {K:zFr}{mg:zMg}{ρ ρ':List Addr}{H H':Hp}{S S1:Sto}{cl:zLA}
def CellsIn(H:Hp)(cl:zLA):Prop:=∀b∈cl.map (·.2),∃o,H b=some (.frz o (.own 0))
theorem CellsIn.out(hc:CellsIn H cl){b:Addr}{u:HO}(h:H b=some u)(n:∀o,u≠.frz o (.own 0)):zba H cl b=some u:=by rw[jg (fun z=>by obtain⟨o,y⟩:=hc b z;rw[h]at y;exact n o (z53 y))];exact h
theorem TupAt.off{p:Addr}{vs:List V}(hc:CellsIn H cl)(h:TupAt K ρ H p vs):TupAt K ρ (zba H cl) p vs:=by
 rcases h with⟨n,h | ⟨o,h⟩⟩ | h
 · exact .inl ⟨n,.inl (hc.out h fun _ z=>by cases z)⟩
 · exact .inl ⟨n,.inr ⟨o,hc.out h fun _ z=>by cases z⟩⟩
 · exact .inr h
theorem LstAt.off{p:Addr}{vs:List V}(hc:CellsIn H cl)(h:LstAt K ρ H p vs):LstAt K ρ (zba H cl) p vs:=by
 rcases h with⟨n,h | ⟨o,h⟩⟩ | h
 · exact .inl ⟨n,.inl (hc.out h fun _ z=>by cases z)⟩
 · exact .inl ⟨n,.inr ⟨o,hc.out h fun _ z=>by cases z⟩⟩
 · exact .inr h
mutual
theorem Rep.off(hc:CellsIn H cl):∀{d:D}{v:V},noC d=true->Rep K mg ρ H d v->Rep K mg ρ (zba H cl) d v
 | .non,_,_,h=>h
 | .bl _,_,_,h=>h
 | .int _,_,_,h=>h
 | .str _,_,_,h=>h
 | .fn _,_,_,h=>h
 | .ty _,_,_,h=>h
 | .tup ds,_,hb,h=>by unfold Rep at h ⊢;unfold noC at hb;obtain⟨p,vs,e1,t,r⟩:=h;exact⟨p,vs,e1,t.off hc,RepL.off hc hb r⟩
 | .lst ds,_,hb,h=>by unfold Rep at h ⊢;unfold noC at hb;obtain⟨p,vs,e1,t,r⟩:=h;exact⟨p,vs,e1,t.off hc,RepL.off hc hb r⟩
 | .obj i,_,hb,h=>by unfold Rep at h ⊢;exact h
 | .lam t,_,_,h=>by unfold Rep at h ⊢;obtain⟨a,e1,n1,c,pm,ct,n2,h1,h2⟩:=h;exact⟨a,e1,n1,c,pm,ct,n2,hc.out h1 (fun _ z=>by cases z),hc.out h2 (fun _ z=>by cases z)⟩
 | .clo t vs,_,hb,h=>by unfold noC at hb;cases hb
theorem RepL.off(hc:CellsIn H cl):∀{ds:List D}{vs:List V},noCL ds=true->RepL K mg ρ H ds vs->RepL K mg ρ (zba H cl) ds vs
 | [],_,_,h=>h
 | d::ds,_,hb,h=>by unfold RepL at h ⊢;unfold noCL at hb;obtain⟨v,r,e,h1,h2⟩:=h;obtain⟨b1,b2⟩:=Bool.and_eq_true_iff.mp hb;exact⟨v,r,e,Rep.off hc b1 h1,RepL.off hc b2 h2⟩
end
theorem MOk.off{a:Addr}{m:MO}(hc:CellsIn H cl)(hb:z0l m=true)(h:MOk K mg ρ H a m):MOk K mg ρ (zba H cl) a m:=by
 cases m with
 |lst ds=>obtain⟨vs,h1,h2⟩:=h;exact⟨vs,hc.out h1 (fun _ z=>by cases z),h2.off hc hb⟩
 |ins c fs=>obtain⟨C,dx,vs,h0,h1,h2,h3⟩:=h;exact⟨C,dx,vs,h0,hc.out h1 (fun _ z=>by cases z),h2,h3.off hc hb⟩
 |dct kvs=>obtain⟨vs,h1,h2,h3⟩:=h;exact⟨vs,hc.out h1 (fun _ z=>by cases z),h2,h3.off hc hb⟩
 |exc c=>obtain⟨C,h1,h2⟩:=h;exact⟨C,h1,hc.out h2 (fun _ z=>by cases z)⟩
 |tab x q=>obtain⟨h0,ps,h1,h2,h3⟩:=h;exact⟨h0,ps,hc.out h1 (fun _ z=>by cases z),h2,fun pos cv z=>let⟨c,z1,z2,z3⟩:=h3 pos cv z;⟨c,z1,z2,hc.out z3 (fun _ z=>by cases z)⟩⟩
theorem StOk.off(hS:StOk K mg ρ H S)(hc:CellsIn H cl)(hb:zb7 S=true):StOk K mg ρ (zba H cl) S :=
 ⟨hS.len,hS.nd,fun i m a e1 e2=>(hS.ob i m a e1 e2).off hc (z55.mp hb m (z5t e1))⟩
theorem Ext.on(e:Ext ρ (zba H cl) ρ' H')(hS:StOk K mg ρ' H' S1)(nn:∀b∈cl.map (·.2),H' b=none)(no:∀b∈cl.map (·.2),b∉ρ):Ext ρ H ρ' (onC H' H cl):=by
 refine⟨e.pre,fun b o h n=>?_,fun b h n=>?_⟩
 · by_cases z:b∈cl.map (·.2)
   · rw[zbt z];exact h
   · rw[qp z];exact e.keep b o (by rw[jg z];exact h) n
 · by_cases z:b∈cl.map (·.2)
   · obtain⟨o,y⟩:=hS.mem h;rw[nn b z]at y;cases y
   · rw[<-jg (H:=H) z];exact e.new b h n
theorem zsw(nn:∀b∈cl.map (·.2),H' b=none):Ext ρ' H' ρ' (onC H' H cl) :=
 ⟨fun _ _ e=>e,fun b o h n=>by
   rw[qp (fun z=>by rw[nn b z]at h;cases h)];exact h,fun _ z n=>absurd z n⟩
theorem StOk.on(hS:StOk K mg ρ' H' S1)(nn:∀b∈cl.map (·.2),H' b=none):StOk K mg ρ' (onC H' H cl) S1 :=
 ⟨hS.len,hS.nd,fun i m a e1 e2=>by
   have q:=hS.ob i m a e1 e2;obtain⟨u,z⟩:=q.some;exact q.mono (zsw nn) (qp (fun y=>by rw[nn a y]at z;cases z))⟩
theorem Cells.out:∀{xs:List Str}{us:List V}{cl:zLA},Cells ρ H xs us cl->∀b∈cl.map (·.2),b∉ρ
 | [],[],[],_,b,hb=>by cases hb
 | x::xs,u::us,p::cl,h,b,hb=>by
   rw[z5a]at hb;rcases z46.mp hb with rfl | hb
   · exact h.2.1
   · exact Cells.out h.2.2.2 b hb
 | [],[],_::_,h,_,_=>h.elim
 | [],_::_,_,h,_,_=>h.elim
 |_::_,[],_,h,_,_=>h.elim
 |_::_,_::_,[],h,_,_=>h.elim
theorem Cells.cin{xs:List Str}{us:List V}(h:Cells ρ H xs us cl):CellsIn H cl:=fun b hb=>let⟨o,_,h1,_⟩:=h.at b hb;⟨o,h1⟩
end
def isI:D->Bool
 | .int _=>true
 |_=>false
def z2p:D->Bool
 | .clo _ vs=>vs.all isI
 |_=>false
def zbv(kv:List D):Bool:=noCL kv||kv.all z2p
section
variable {K:zFr}{mg:zMg}{ρ:List Addr}{H:Hp}{cl:zLA}
theorem z16{ds kv:List D}{S:Sto}(h:(noCL ds&&noCL kv&&zb7 S)=true):(noCL ds&&zbv kv&&zb7 S)=true:=by simp only[z50]at h;simp only[zbv,h.1.1,h.1.2,h.2,Bool.true_or,z8w]
def z2v(H:Hp)(cl:zLA):Prop:=∀b∈cl.map (·.2),∃o a,H b=some (.frz o (.own 0))/\o.data=.cell (some (.ref a))
theorem Cells.refs:∀{xs:List Str}{us:List V}{cl:zLA}{kv:List D},Cells ρ H xs us cl->RepL K mg ρ H kv us->kv.all z2p=true->z2v H cl
 | [],[],[],_,_,_,_=>fun b hb=>by cases hb
 |x::xs,u::us,p::cl,[],_,r,_=>by unfold RepL at r;cases r
 | x::xs,u::us,p::cl,d::kv,h,r,q=>fun b hb=>by
   unfold RepL at r;obtain⟨v,r',e,r1,r2⟩:=r;cases e;rw[List.all_cons,z50]at q;rw[z5a]at hb;obtain⟨_,_,⟨o,w,h3,h4,h5⟩,h6⟩:=h;rcases z46.mp hb with rfl | hb
   · cases d with
     | clo t vs=>
       unfold Rep at r1;obtain⟨a,_,rfl,_⟩:=r1;obtain rfl:w=Value.ref a:=h5;exact⟨o,a,h3,h4⟩
     |_=>cases q.1
   · exact Cells.refs h6 r2 q.2 b hb
 | [],[],_::_,_,h,_,_=>h.elim
 | [],_::_,_,_,h,_,_=>h.elim
 |_::_,[],_,_,h,_,_=>h.elim
 |_::_,_::_,[],_,h,_,_=>h.elim
theorem Cells.off1(hr:z2v H cl):∀{xs:List Str}{us:List V}{c1:zLA}{vs:List D},Cells ρ H xs us c1->RepL K mg ρ H vs us->vs.all isI=true->Cells ρ (zba H cl) xs us c1
 | [],[],[],_,_,_,_=>trivial
 |x::xs,u::us,p::c1,[],_,r,_=>by unfold RepL at r;cases r
 | x::xs,u::us,p::c1,d::vs,h,r,q=>by
   unfold RepL at r;obtain⟨v,r',e,r1,r2⟩:=r;cases e;rw[List.all_cons,z50]at q;obtain⟨h1,h2,⟨o,w,h3,h4,h5⟩,h6⟩:=h;refine⟨h1,h2,⟨o,w,?_,h4,h5⟩,Cells.off1 hr h6 r2 q.2⟩;rw[jg fun z=>?_]
   · exact h3
   · obtain⟨o',a,y1,y2⟩:=hr _ z;rw[h3]at y1;cases y1;rw[h4]at y2;cases y2;cases d with
     | int i=>
       unfold Rep at r1;subst r1;obtain⟨_,h5⟩:=h5;cases h5
     |_=>cases q.1
 | [],[],_::_,_,h,_,_=>h.elim
 | [],_::_,_,_,h,_,_=>h.elim
 |_::_,[],_,_,h,_,_=>h.elim
 |_::_,_::_,[],_,h,_,_=>h.elim
theorem zjr:∀{vs:List D},vs.all isI=true->noCL vs=true
 | [],_=>rfl
 | d::vs,h=>by
   rw[List.all_cons,z50]at h;unfold noCL;rw[zjr h.2,z8w];cases d with
   |int i=>rfl
   |_=>cases h.1
theorem RepL.off1(hc:CellsIn H cl)(hr:z2v H cl):∀{kv:List D}{us:List V},kv.all z2p=true->RepL K mg ρ H kv us->RepL K mg ρ (zba H cl) kv us
 | [],_,_,h=>h
 | d::kv,_,q,h=>by
   unfold RepL at h ⊢;rw[List.all_cons,z50]at q;obtain⟨v,r,e,h1,h2⟩:=h;refine⟨v,r,e,?_,RepL.off1 hc hr q.2 h2⟩;cases d with
   | clo t vs=>
     unfold Rep at h1 ⊢;obtain⟨a,us,e1,⟨n,c,pm,ct,c1,nc,z1,z2,z3,z4⟩,rk⟩:=h1;exact⟨a,us,e1,⟨n,c,pm,ct,c1,nc,hc.out z1 (fun _ z=>by cases z),hc.out z2 (fun _ z=>by cases z),z3,z4.off1 hr rk q.1⟩,rk.off hc (zjr q.1)⟩
   |_=>cases q.1
theorem zqr{xs:List Str}{us:List V}{kv:List D}(h:Cells ρ H xs us cl)(r:RepL K mg ρ H kv us)(q:zbv kv=true):RepL K mg ρ (zba H cl) kv us:=by
 unfold zbv at q;rcases Bool.or_eq_true_iff.mp q with q | q
 · exact r.off h.cin q
 · exact r.off1 h.cin (h.refs r q) q
end
def zmo(K:zFr)(mg:zMg)(t:LT)(a c:Addr)(pm ct:Value)(cl:zLA)(g:G):Sp:=fun vs H Q _=>∃ρ ds S d S' us kv,RepL K mg ρ H ds vs/\StOk K mg ρ H S/\H a=some (.ext (zki t cl a c pm ct))/\H c=some (.ext (yj c t.qual))/\(cl.map (·.2)).Nodup/\Cells ρ H t.caps us cl/\RepL K mg ρ H kv us /\
 (noCL ds&&zbv kv&&zb7 S)=true/\g (ds++kv) S=some (d,S')/\ds.length=t.params.args.length/\∀v ρ' H',Ext ρ H ρ' H'->StOk K mg ρ' H' S'->Rep K mg ρ' H' d v->Q v H'
section
variable {P:Program}{w:World}{K:Frag}{mg:zMg}{base:Heap}{k:Nat}{t:LT}{ps:List Str}{f:E}
theorem zz0(S:CloScope ps t.caps t.scope)(hpl:ps.length=t.params.args.length)(a c:Addr)(pm ct:Value)(cl:zLA)
   (hbody:∀(A:Around) (outer:List Env) (s:Shared) (H H1:Hp) (E:XK),Room k (A.deeper (envX t.qual t.scope s.heap.objs.size a (.ref c) cl))->FE (cxC P w K mg base (ps++t.caps) t.qual t.scope a (.ref c) cl A outer s H H1 E).nox t.body f) :
   FnOk P w K mg base CX0 (k+1) a (kla_fn "<lambda>" t.qual t.params t.body t.scope cl pm (.ref c) ct) ps (zmo K mg t a c pm ct cl (ziw (ps++t.caps).length (ps++t.caps).length f)):=by
 have len:∀vs H Q E,zmo K mg t a c pm ct cl (ziw (ps++t.caps).length (ps++t.caps).length f) vs H Q E->vs.length=ps.length:=fun vs H Q E h=>by obtain⟨ρ,ds,S,d,S',us,kv,r,_,_,_,_,_,_,_,_,hl,_⟩:=h;rw[<-r.length,hl,hpl]
 refine⟨len,fun A outer s H args us vs Q E hr e0 hb r hsp=>?_⟩;have hl:=len _ _ _ _ hsp;obtain⟨ρ,ds,S0,d,S',cs,kv,rr,hS,hA,hC,hnd,hcs,rk,hno,hf,hdl,kk⟩:=hsp;have lim:s.heap.NoLimit:=e0.mod.nolimit.keeps fun b o e=>(e0.bs b o e).1;have ho:s.heap.get? a=some (kla_obj "<lambda>" t.qual t.params t.body t.scope cl pm c ct):=(e0.hok a _ hA).1;have hcd:s.heap.CodeRec (.ref c) t.qual:=(e0.hok c _ hC).1;have hloc:∀y∈ps.zip us,t.scope.names.lookup y.1=some .local:=fun⟨n,v⟩ hy=>S.par n (z7m hy).1;refine kla_callFunE hr.depth ho rfl S.co S.gen rfl hcd (hb _ _ _ _ ?_);refine wpAny_newFunctionEnv S.nocell hloc (fun h₁ hns hsb=>⟨lim.fresh _ hsb,?_⟩) S.kind;show codeAny _ _ (.expr t.body (envX t.qual t.scope s.heap.objs.size a (.ref c) cl)) _ _;have hk₁:∀b o,s.heap.get? b=some o->h₁.get? b=some o:=fun b o e=>hsb.extBut b o (z5h (z5f e)) (z4z _ e);refine kla_codeExpr ?_;have I:=zlg (qual:=t.qual) (f:=a) (cd:=.ref c) (E:=E) (tk:=s.toks+(ps.zip us).length) S hr.hd e0 hl r hcs hnd hns hk₁;have cin:=hcs.cin;rw[z50,z50]at hno;obtain⟨⟨n1,n2⟩,n3⟩:=hno;unfold ziw at hf;split at hf
 · rename_i hlen;have hpe:=(hbody A outer s H (zba H cl) E (hr.deeper _)).nox;have rs:RepL K mg ρ (zba H cl) (ds++kv) (vs++cs):=(rr.off cin n1).append (zqr hcs rk n2);have ev:EnvR K mg ρ (zba H cl) ((ds++kv).map some) ((vs++cs).map some):=by
     refine⟨by rw[z56,z56,rs.length],fun i x q=>?_⟩;rw[z54]at q ⊢;cases hx:(ds++kv)[i]? with
     |none=>rw[hx]at q;cases q
     | some y=>
       rw[hx]at q;cases q;obtain⟨v,e1,r1⟩:=rs.get hx;exact⟨v,by rw[e1];rfl,r1⟩
   rw[hlen,z9u,List.replicate_zero,z5q]at hf;have hb2:∀b∈cl.map (·.2),(∃o,H b=some (.frz o (.own 0)))/\b∉frs outer:=fun b hb=>⟨cin b hb,fun z=>by
     obtain⟨o,y⟩:=cin b hb;rw[e0.frf b z]at y;cases y⟩
   refine z69 (hpe [] _ ((vs++cs).map some) (zba H cl) (fun v H'=>(∀b∈cl.map (·.2),H' b=none)->Q v (onC H' H cl)) I ⟨ρ,_,S0,d,S',ev,hS.off cin n3,hf,fun v ρ' H' E' hS' r' nn=>?_⟩) (fun v s' hs=>?_) fun e s' hs=>hs
   · exact kk v ρ' _ (E'.on hS' nn hcs.out) (hS'.on nn) (r'.mono (zsw nn))
   · obtain⟨v',H',J,rv,q⟩:=hs;have un:Un (frs outer) [] (zba H cl) H' s.heap s'.heap:=J.base;have nn:∀b∈cl.map (·.2),H' b=none:=fun b hb=>by obtain⟨⟨o,z⟩,_⟩:=hb2 b hb;exact un.free b o (e0.hok b _ z).1 (zcc hb) (by simp)
     exact⟨v',onC H' H cl,J.os,J.bare,z06 un cin,zyw un e0.hok J.hok hb2,rv,q nn⟩
 · cases hf
structure CCal (P:Program) (w:World) (K:Frag) (mg:zMg) (base:Heap) (k:Nat) (t:LT) (g:G):Prop where
 ex:∃ps:List Str,(∀(a c:Addr) (pm ct:Value) (cl:zLA),FnOk P w K mg base CX0 k a (kla_fn "<lambda>" t.qual t.params t.body t.scope cl pm (.ref c) ct) ps (zmo K mg t a c pm ct cl g)) /\
   ∀(c:Addr) (pm ct:Value) (cl:zLA),Binds K (kla_fn "<lambda>" t.qual t.params t.body t.scope cl pm (.ref c) ct) ps []
theorem CCal.mono{j:Nat}{g:G}(c:CCal P w K mg base j t g)(h:j<=k):CCal P w K mg base k t g :=
 let⟨ps,F,b⟩:=c.ex;⟨ps,fun a c pm ct cl=>(F a c pm ct cl).mono h,b⟩
theorem CCal.of(S:CloScope ps t.caps t.scope)(hpl:ps.length=t.params.args.length)(hb:∀(c:Addr) (pm ct:Value) (cl:zLA) (us:List Value),us.length=ps.length->bindArgs (kla_fn "<lambda>" t.qual t.params t.body t.scope cl pm (.ref c) ct) ⟨us,[]⟩=pure (ps.zip us))
   (hbody:∀(a c:Addr) (cl:zLA) (A:Around) (outer:List Env) (s:Shared) (H H1:Hp) (E:XK),Room k (A.deeper (envX t.qual t.scope s.heap.objs.size a (.ref c) cl))->FE (cxC P w K mg base (ps++t.caps) t.qual t.scope a (.ref c) cl A outer s H H1 E).nox t.body f) :
   CCal P w K mg base (k+1) t (ziw (ps++t.caps).length (ps++t.caps).length f) :=
 ⟨ps,fun a c pm ct cl=>zz0 S hpl a c pm ct cl (hbody a c cl),fun c pm ct cl=>.all (hb c pm ct cl)⟩
end
def zb2(ft:Str->Option G)(lt ct:LT->Option G)(f:E)(a:As):E:=fun ev S=>(f ev S).bind fun p=>match p.1 with
 | .fn x=>(ft x).bind fun g=>(a ev p.2).bind fun q=>g q.1 q.2
 | .lam t=>(lt t).bind fun g=>(a ev p.2).bind fun q=>g q.1 q.2
 | .clo t vs=>(ct t).bind fun g=>(a ev p.2).bind fun q=>if(noCL q.1&&zbv vs&&zb7 q.2)=true/\q.1.length=t.params.args.length then g (q.1++vs) q.2 else none
 |_=>none
section
variable {X:Cx}{k:Nat}{f:E}{a:As}{e:Expr}{es:List Expr}{pos:Pos}
theorem zfz{fe:Expr}{ft:Str->Option G}{lt ct:LT->Option G}(hT:∀x g,ft x=some g->Cal X.prog X.w X.K X.mg X.base k x g)(hL:∀t g,lt t=some g->LCal X.prog X.w X.K X.mg X.base k t g)(hC:∀t g,ct t=some g->CCal X.prog X.w X.K X.mg X.base k t g)(hr:Room k X.A)(hf:FE X fe f)(ha:FA X (e::es) a)
   (ht:eval (.Call fe (e::es) [] pos) X.env=(eval fe X.env >>= fun v=>callWith pos v [] (backTo pos (starEach (e::es) X.env)) (backToKw pos (keywordEach [] X.env))):=by rfl)
   (he:starEach (e::es) X.env=(false,eval e X.env)::starEach es X.env:=by exact zy rfl) (hpl:(backTo pos (starEach es X.env)).any (·.1)=false:=by exact qx rfl) :
   FE X (.Call fe (e::es) [] pos) (zb2 ft lt ct f a):=by
 intro pins s σ H Q I h;obtain⟨ρ,ev,S,d,S',hE,hS,hf',kk⟩:=h;obtain⟨⟨y,S1⟩,q1,hf'⟩:=zv hf';cases y with
 | fn x=>
   refine za9 (ft:=ft) (lt:=lt) hT hL hr hf ha ht he hpl pins s σ H Q I ⟨ρ,ev,S,d,S',hE,hS,?_,kk⟩;unfold zag;rw[q1];exact hf'
 | lam t=>
   refine za9 (ft:=ft) (lt:=lt) hT hL hr hf ha ht he hpl pins s σ H Q I ⟨ρ,ev,S,d,S',hE,hS,?_,kk⟩;unfold zag;rw[q1];exact hf'
 | clo t kv=>
   rw[ht];dsimp only at hf';obtain⟨g,hx,hf'⟩:=zv hf';obtain⟨⟨ds,S2⟩,q2,hf'⟩:=zv hf';dsimp only at hf';split at hf'
   · rename_i hno;obtain⟨hno,hlen⟩:=hno;obtain⟨ps,F,hb⟩:=(hC t g hx).ex;refine z4u (thn (hf pins s σ H (fun v H1=>∃ρ1 a0 us,v=.ref a0/\Ext ρ H ρ1 H1/\StOk X.K X.mg ρ1 H1 S1/\CloAt ρ1 H1 t us a0/\RepL X.K X.mg ρ1 H1 kv us) I ⟨ρ,ev,S,_,S1,hE,hS,q1,fun v ρ1 H1 E1 hS1 r1=>?_⟩) fun u s1 ⟨v,H1,I1,rv,ρ1,a0,us,ev1,E1,hS1,L1,rk⟩=>?_)
     · unfold Rep at r1;obtain⟨b,us,rfl,L,rk⟩:=r1;exact⟨ρ1,b,us,rfl,E1,hS1,L,rk⟩
     · subst ev1;obtain rfl:u=Value.ref a0:=rv;obtain⟨n0,c,pm,ctv,cl,nc,hA,hC,hnd,hcs⟩:=L1;have at_:∀{H':Hp}{s':Shared},Inv X pins σ H' s'->H' a0=some (.ext (zki t cl a0 c pm ctv))->FnAt a0 s'.heap:=fun J e=>⟨_,_,_,_,(J.hok a0 _ e).1⟩
       refine callWith_F (at_ I1 hA) (thn (ha pos pins s1 σ H1 (fun vs H2=>(H2 a0=some (.ext (zki t cl a0 c pm ctv)))/\zmo X.K X.mg t a0 c pm ctv cl g vs H2 Q E0) I1 ⟨ρ1,ev,S1,ds,S2,hE.mono E1,hS1,q2,fun vs ρ2 H2 E2 hS2 r2=>?_⟩) fun us s2 ⟨vs,H2,I2,r,hA2,q2⟩=>⟨at_ I2 hA2,?_⟩) he hpl
       · have h1:=E2.keep _ _ hA n0;have h2:=E2.keep _ _ hC nc;exact⟨h1,ρ2,ds,S2,d,S',us,kv,r2,hS2,h1,h2,hnd,hcs.mono E2,rk.mono E2,hno,hf',hlen,fun v ρ' H' E' hS' r'=>kk v ρ' H' ((E1.trans E2).trans E') hS' r'⟩
       · exact zgq (ds:=[]) (dvs:=[]) (F a0 c pm ctv cl) hr (hb c pm ctv cl) .nil zk4 I2 r (by rw[z5q];exact q2)
   · cases hf'
 |_=>cases hf'
end
end F
namespace F
open PySem L2 PySem.Spec PySem.Calls PyProof.Rows PySem.W
def zf7(ev:Ev):List Nat->Option (List D)
 | []=>some []
 | i::is=>match ev[i]? with
   |some (some d)=>(zf7 ev is).map (d::·)
   |_=>none
structure CapsOk (X:Cx) (t:LT) (cl:zLA) (is:List Nat):Prop where
 clo:closureFor t.scope X.env=pure cl
 names:cl.map (·.1)=t.caps
 look:∀p∈cl,X.env.cells.lookup p.1=some p.2
 nd:t.caps.Nodup
 at_:is.map (fun i=>X.N[i]?)=t.caps.map some
 kind:∀x∈t.caps,X.env.scope.names.lookup x=some .cell
 fn:∀x∈t.caps,X.fn x=true
def trk(H:Hp)(h:Heap)(cl:zLA):Hp:=onC H (fun b=>(h.get? b).map fun o=>.frz o (.own 0)) cl
section
variable {X:Cx}{pins:zAO}{σ:L2.St}{H H':Hp}{s:Shared}{t:LT}{cl:zLA}{is:List Nat}{ρ:List Addr}{ev:Ev}{S:Sto}
theorem CapsOk.hn(C:CapsOk X t cl is)(I:Inv X pins σ H s):∀b∈cl.map (·.2),H b=none:=fun b hb=>by obtain⟨p,hp,rfl⟩:=z68.mp hb;exact I.freeC _ _ (C.look p hp)
theorem CapsOk.isc(C:CapsOk X t cl is)(I:Inv X pins σ H s):∀b∈cl.map (·.2),∃o v,s.heap.get? b=some o/\o.data=.cell v:=fun b hb=>by obtain⟨p,hp,rfl⟩:=z68.mp hb;obtain⟨v,o,h1,h2⟩:=I.cell _ _ (C.look p hp);exact⟨o,v,h1,h2⟩
theorem CapsOk.cin(C:CapsOk X t cl is)(I:Inv X pins σ H s):CellsIn (trk H s.heap cl) cl:=fun b hb=>by obtain⟨o,v,h1,_⟩:=C.isc I b hb;exact⟨o,by unfold trk;rw[zbt hb,h1];rfl⟩
theorem CapsOk.nodup(C:CapsOk X t cl is)(I:Inv X pins σ H s):(cl.map (·.2)).Nodup:=by have nd:(cl.map (·.1)).Nodup:=C.names▸C.nd;unfold List.Nodup at nd ⊢;rw[z8h]at nd ⊢;refine nd.imp_of_mem fun {p q} hp hq ne e=>ne ?_;exact I.ok.inj _ _ p.2 (C.look p hp) (by rw[C.look q hq,e])
theorem CapsOk.ext(C:CapsOk X t cl is)(I:Inv X pins σ H s):Ext ρ H ρ (trk H s.heap cl) :=
 ⟨fun _ _ e=>e,fun b o h n=>by
   unfold trk;rw[qp (fun z=>by rw[C.hn I b z]at h;cases h)];exact h,fun _ z n=>absurd z n⟩
theorem CapsOk.st(C:CapsOk X t cl is)(I:Inv X pins σ H s)(hS:StOk X.K X.mg ρ H S):StOk X.K X.mg ρ (trk H s.heap cl) S :=
 hS.on (C.hn I)
theorem CapsOk.hok(C:CapsOk X t cl is)(I:Inv X pins σ H s):HOk X.prog X.w (trk H s.heap cl) s.heap:=fun b u e=>by
 unfold trk at e;by_cases z:b∈cl.map (·.2)
 · obtain⟨o,v,h1,_⟩:=C.isc I b z;rw[zbt z,h1]at e;cases e;exact⟨h1,⟨o,h1⟩⟩
 · rw[qp z]at e;refine(I.hok b u e).stay (fun _ _ _ q=>q) (fun d q=>?_) fun d xs q=>?_
   · unfold trk;rw[qp (fun y=>by rw[C.hn I d y]at q;cases q)];exact q
   · unfold trk;rw[qp (fun y=>by rw[C.hn I d y]at q;cases q)];exact q
theorem CapsOk.env0(C:CapsOk X t cl is)(I:Inv X pins σ H s):Env0 X.prog X.w X.K X.mg X.base X.A X.stack s (trk H s.heap cl):=by
 have e:=I.env0;refine⟨e.frames,e.mod,fun b o h=>⟨(e.bs b o h).1,?_⟩,e.bsz,e.funs,fun b hb=>?_,C.hok I,e.bare⟩
 · unfold trk;rw[qp];exact(e.bs b o h).2;intro z;obtain⟨p,hp,rfl⟩:=z68.mp z;have:=I.ok.cab p.1 p.2 (C.fn _ (C.names▸z6q hp)) (C.look p hp);rw[z7b (z5j I.ok.bsz this)]at h;cases h
 · unfold trk;rw[qp];exact e.frf b hb;intro z;obtain⟨p,hp,rfl⟩:=z68.mp z;rcases z46.mp (I.stkSub _ hb)with y | y
   · exact I.cne _ _ (C.look p hp) y
   · obtain⟨_,o',h3,_⟩:=I.ok.funs.mem y;have:=I.ok.cab p.1 p.2 (C.fn _ (C.names▸z6q hp)) (C.look p hp);exact absurd (z5f h3) (z8r.mpr this)
theorem zb4(C:CapsOk X t cl is)(I:Inv X pins σ H s)(hE:EnvR X.K X.mg ρ H ev σ)(hS:StOk X.K X.mg ρ H S) :
   ∀(cl':zLA) (js:List Nat) (vs:List D),(∀p∈cl',p∈cl)->js.map (fun i=>X.N[i]?)=cl'.map (fun p=>some p.1)->zf7 ev js=some vs->∃us,Cells ρ (trk H s.heap cl) (cl'.map (·.1)) us cl'/\RepL X.K X.mg ρ H vs us
 | [],[],vs,_,_,h=>by cases h;exact⟨[],trivial,RepL.nil⟩
 | [],_::_,_,_,e,_=>by cases e
 |_::_,[],_,_,e,_=>by cases e
 | p::cl',i::js,vs,hm,e,h=>by
   rw[z5a,z5a]at e;obtain⟨e1,e2⟩:=List.cons.inj e;unfold zf7 at h;split at h
   · rename_i d hd;obtain⟨vs',hv,h⟩:=yz h;subst h;obtain⟨us,c1,r1⟩:=zb4 C I hE hS cl' js vs' (fun q hq=>hm q (z40 _ hq)) e2 hv;obtain⟨v,hσ,rd⟩:=hE.at_ i d hd;obtain⟨m,hns,hl⟩:=I.loc;have hp:=hm p z5c;have hpm:p.1∈t.caps:=C.names▸z6q hp;have kd:=C.kind _ hpm;obtain⟨u,ru,lk⟩:=hl i p.1 v e1 hσ (.inr (.inl kd));have hb:p.2∈cl.map (·.2):=z6q hp;refine⟨v::us,⟨rfl,hS.fresh (C.hn I _ hb),?_,c1⟩,RepL.cons rd r1⟩;rcases lk with⟨k1,_⟩ | ⟨_,c,z1,o,z2,z3⟩
     · have:X.env.scope.names.lookup p.1=some .local:=k1;rw[kd]at this;cases this
     · rw[C.look p hp]at z1;cases z1;exact⟨o,u,by unfold trk;rw[zbt hb,z2];rfl,z3,ru⟩
   · cases h
theorem zr1{fs:List Addr}{h h':Heap}(hn:∀b∈cl.map (·.2),H b=none)(u:Un fs [] (trk H h cl) H' h h')(x:∀b∈cl.map (·.2),∃o,h.get? b=some o)(y:∀b o w,H' b=some (.frz o w)->h'.get? b=some o):Un fs [] H (zba H' cl) h h':=by
 have out:∀b,b∉cl.map (·.2)->trk H h cl b=H b:=fun b z=>qp z;have kp:∀b∈cl.map (·.2),∀o,h.get? b=some o->h'.get? b=some o:=fun b hb o e=>y b o (.own 0) (u.frzs b o _ (by unfold trk;rw[zbt hb,e];rfl));have ne:∀b v,H b=some v->b∉cl.map (·.2):=fun b v e z=>by rw[hn b z]at e;cases e
 refine⟨fun b o e n hb hx=>?_,fun b o e n hb hx=>?_,fun b o e n hx=>?_,u.there,fun b xs e=>?_,fun b o v e=>?_,fun b ps e=>?_⟩
 · by_cases z:b∈cl.map (·.2)
   · exact kp b z o e
   · exact u.keep b o e (by rw[out b z];exact n) hb hx
 · by_cases z:b∈cl.map (·.2)
   · exact⟨o.slots,kp b z o e⟩
   · exact u.slot b o e (by rw[out b z];exact n) hb hx
 · by_cases z:b∈cl.map (·.2)
   · exact zcc z
   · exact kh (u.free b o e (by rw[out b z];exact n) hx)
 · rw[jg (ne b _ e)];exact u.tups b xs (by rw[out b (ne b _ e)];exact e)
 · rw[jg (ne b _ e)];exact u.frzs b o v (by rw[out b (ne b _ e)];exact e)
 · obtain⟨more,q⟩:=u.tbls b ps (by rw[out b (ne b _ e)];exact e);exact⟨more,by rw[jg (ne b _ e)];exact q⟩
theorem zn2{c:Addr}{pm ct:Value}{h':Heap}{tk:Nat}(I:Inv X pins σ H s)(hk:∀b o,s.heap.get? b=some o->h'.get? b=some o)(hsz:s.heap.objs.size<=h'.objs.size) :
   Inv X pins σ (upd H h'.objs.size (.ext (zki t cl h'.objs.size c pm ct))) { s with heap:=h'.push (kla_obj "<lambda>" t.qual t.params t.body t.scope cl pm c ct),toks:=tk }:=by
 refine I.laid (t':=tk) (fun b o e=>z4z _ (hk b o e)) hsz ?_;refine⟨z5s _ rfl,⟨_,z5s _ rfl⟩,fun h1 h2 p k=>k _ p⟩
def z0j(K:Frag)(mg:zMg)(j:Nat)(x:Str)(t:LT)(cl:zLA):TE:=fun σ H Q=>∃ρ S,StOk K mg ρ H S/\S[j]? = some (.tab x t.qual) /\
 ∀a c pm ct H',Ext ρ H ρ H'->StOk K mg ρ H' S->a∉ρ->c∉ρ->H' a=some (.ext (zki t cl a c pm ct))->H' c=some (.ext (yj c t.qual))->Q (.ref a) H'
theorem zsi{x:Str}{params:Arguments}{body:Expr}{scope:Scope}{pos:Pos}{caps:List Str}(j:Nat)(hcd:zb6 X.K X.mg x X.env.code)(hb:zl1 X.base X.mg)(hcl:closureFor scope X.env=pure cl)(hdef:defaultsOf params X.env=([],[]):=by rfl) :
   PE X (.Lambda params body scope pos) (z0j X.K X.mg j x ⟨params,body,scope,X.env.qual++"<lambda>",caps,[]⟩ cl):=by
 intro pins s σ H Q I h;obtain⟨ρ,S,hS,hj,k⟩:=h;obtain⟨P,hP,T,ps,hps,htr,hcs⟩:=hS.adr hj;obtain⟨f1,o1,fd1,c1,e1,e2,e3,e4,e5⟩:=T;obtain⟨f2,o2,fd2,g1,g2,g3,g4⟩:=hcd;rw[e1]at g1;cases g1;rw[e2]at g2;cases g2;rw[e3]at g3;cases g3;have hcode:X.env.code=.ref c1:=g4.symm.trans e4;have C:CodeHd s.heap c1 P:=codeHd_of_K I.kIn e5;have hPt:s.heap.get? P=some (tabObj ps):=I.hok P _ hps;have bs:=I.bs;have nP:∀b o,X.base.get? b=some o->b≠P:=fun b o e z=>by have:=(bs b o e).2;rw[z,hps]at this;cases this
 have hg:s.heap.Ns mainGlobals X.mg:=by obtain⟨o,es,ep,ho,r⟩:=I.mod.glob;exact⟨o,es,ep,I.bk _ _ ho,r⟩
 have hgP:mainGlobals≠P:=by obtain⟨o,es,ep,ho,r⟩:=I.mod.glob;exact nP _ _ ho
 obtain⟨bm,ob,b1,b2,b3,b4,b5,b6,b7⟩:=hb;have hBA:s.heap.BuiltinsAt X.mg P:=⟨bm,ob,b1,b2,b3,nP _ _ b4,I.bk _ _ b4,b5,b6,b7⟩
 refine kla_eval hdef ?_;cases hca:codeAmong pos ps.toList with
 | none=>
   refine kla_makeFunction hcl I.ok.glob hg hcode C hPt htr hca hgP hBA fun c' ctv h' tk hx hge hlt hrec htb=>?_;have hn:H c'=none:=I.hok.fresh hge;have I1:=zn0 (q:=X.env.qual++"<lambda>") (tk:=tk) I hps hx htb hge hrec;have I2:=zn2 (t:=⟨params,body,scope,X.env.qual++"<lambda>",caps,[]⟩) (cl:=cl) (c:=c') (pm:=(X.mg "__name__").getD .none) (ct:=ctv) (h':=h') (tk:=tk) I1 (fun _ _ e=>e) (z4v _);obtain⟨E1,S1⟩:=zjd (a:=pos.line) (b:=pos.col) hS hj hP hps hn;have hf:=I1.hok.fresh (a:=h'.objs.size) (z4v _);have E2:=jl S1 (.ext (zki ⟨params,body,scope,X.env.qual++"<lambda>",caps,[]⟩ cl h'.objs.size c' ((X.mg "__name__").getD .none) ctv)) hf;exact⟨.ref h'.objs.size,_,I2,rfl,k _ c' _ _ _ (E1.trans E2) (S1.new _ hf) (S1.fresh hf) (hS.fresh hn) qg (by rw[z0 (z5h hlt),qg])⟩
 | some cv=>
   obtain⟨c',rfl,nc,hc'⟩:=hcs pos cv hca;refine kla_makeFunctionHit hcl I.ok.glob hg hcode C hPt htr hca hBA fun ctv h' tk hk hsz=>?_;have hf:H h'.objs.size=none:=I.hok.fresh hsz;have I2:=zn2 (t:=⟨params,body,scope,X.env.qual++"<lambda>",caps,[]⟩) (cl:=cl) (c:=c') (pm:=(X.mg "__name__").getD .none) (ct:=ctv) (h':=h') (tk:=tk) I hk hsz;have E2:=jl hS (.ext (zki ⟨params,body,scope,X.env.qual++"<lambda>",caps,[]⟩ cl h'.objs.size c' ((X.mg "__name__").getD .none) ctv)) hf;exact⟨.ref h'.objs.size,_,I2,rfl,k _ c' _ _ _ E2 (hS.new _ hf) (hS.fresh hf) nc qg (E2.keep _ _ hc' nc)⟩
end
end F
namespace F
open PySem L2 PySem.Spec PyProof.Rows PySem.W
section
variable {X:Cx}{o e lo hi:Expr}{pos pos' p2:Pos}{f h:E}{u w:Pt}
def z22(f:E)(a b:Pt)(v:E):C:=fun ev S=>(v ev S).bind fun p=>(f ev p.2).bind fun q=>(a ev q.2).bind fun r=>(b ev r.2).bind fun t=>match p.1,q.1,r.1,t.1 with
 | .lst ys,.obj i,some lo,some hi=>(match t.2[i]? with
   |some (.lst ds)=>if 0<=lo/\lo<=hi/\hi<=ds.length/\ds.length+ys.length<=sizeLine then some (.nx ev,t.2.set i (.lst (ds.take lo.toNat++ys++ds.drop hi.toNat)))else none
   |_=>none)
 |_,_,_,_=>none
end
section
variable {X:Cx}{K:Frag}{mg:zMg}{a b:Expr}{f g:E}{pos:Pos}
def zkv(S:Sto):D->Option (List D)
 | .lst ds=>some ds
 | .obj a=>(match S[a]? with
   |some (.lst ds)=>some ds
   |_=>none)
 |_=>none
theorem zcw{ρ H S x v ds}(hS:StOk K mg ρ H S)(r:Rep K mg ρ H x v)(e:zkv S x=some ds)(hb:bndL 0 ds=true):Rep K mg (ρ.take 0) H (.lst ds) v:=by
 cases x with
 |lst xs=>cases e;exact r.cut (n:=0) (by unfold bnd;exact hb)
 | obj i=>
   dsimp only[zkv]at e;split at e
   · rename_i xs hd;cases e;unfold Rep at r;obtain⟨p,rfl,hp⟩:=r;obtain⟨us,hu,ru⟩:=hS.ob i _ p hd hp;unfold Rep;exact⟨p,us,rfl,.inl ⟨by simp,.inl hu⟩,ru.cut hb⟩
   · cases e
 |_=>cases e
def zk6(S:Sto)(x y:D):Option D:=(zkv S x).bind fun as=>(zkv S y).bind fun bs=>if bndL 0 as=true/\bndL 0 bs=true then zut (.lst as) (.lst bs)else none
def zk8(S:Sto)(x y:D):Option D:=(zkv S x).bind fun as=>(zkv S y).bind fun bs=>if bndL 0 as=true/\bndL 0 bs=true then xy (.lst as) (.lst bs)else none
theorem ztw:ze7 K mg (zv1 K mg true) zk6:=by
 intro ρ H S x y dx dy d Q hS rx ry e k;obtain⟨as,e1,e⟩:=zv e;obtain⟨bs,e2,e⟩:=zv e;split at e
 · rename_i hb;obtain⟨c,e3,e⟩:=yz e;subst e;exact⟨ρ.take 0,.lst as,.lst bs,c,zcw hS rx e1 hb.1,zcw hS ry e2 hb.2,e3,k _ H (Ext.refl _ _) hS rfl⟩
 · cases e
theorem zt3:ze7 K mg (zv1 K mg false) zk8:=by
 intro ρ H S x y dx dy d Q hS rx ry e k;obtain⟨as,e1,e⟩:=zv e;obtain⟨bs,e2,e⟩:=zv e;split at e
 · rename_i hb;obtain⟨c,e3,e⟩:=yz e;subst e;exact⟨ρ.take 0,.lst as,.lst bs,c,zcw hS rx e1 hb.1,zcw hS ry e2 hb.2,e3,k _ H (Ext.refl _ _) hS rfl⟩
 · cases e
theorem zzk{k:Nat}(hr:Room k X.A)(ha:FE X a f)(hb:FE X b g)(hm:behindInMarks .NotEq b=false:=by exact kr _):FB X (.Compare a [.NotEq] [b] pos) (bE (e2s zk6 f g)):=zbz (zsk (by have:=hr.un;omega)) ztw ha hb hm
theorem zzf{k:Nat}(hr:Room k X.A)(ha:FE X a f)(hb:FE X b g)(hm:behindInMarks .Eq b=false:=by exact kr _):FE X (.Compare a [.Eq] [b] pos) (e2s zk8 f g):=zg2 (zgv (by have:=hr.un;omega)) zt3 ha hb hm
end
section
variable {X:Cx}{K:Frag}{mg:zMg}{e o l:Expr}{f g:E}{pos apos spos px pt:Pos}{body:C}
def zg4(f:E):E:=fun ev S=>(f ev S).bind fun p=>match p.1 with
 | .obj a=>(match p.2[a]? with
   |some (.lst _)=>some (.non,p.2.set a (.lst []))
   |_=>none)
 |_=>none
theorem zq3(ho:FE X o f)(hbase:attributeBase o "clear" X.env (eval o X.env)=eval o X.env:=by rfl)(hline:(apos.endLine==pos.line)=true:=by rfl) :
   FE X (.Call (.Attribute o "clear" apos) [] [] pos) (zg4 f) :=
 qz (zxw PySem.F.plainAttrs_list PySem.F.slot_list_clear PySem.F.type_list_clear zql ho hbase hline) fun σ H Q h=>by
   obtain⟨ρ,ev,S,d,S',hE,hS,hf,k⟩:=h;obtain⟨⟨x,S1⟩,q1,hf⟩:=zv hf;cases x with
   | obj a=>
     dsimp only at hf;split at hf
     · rename_i ds hd;cases hf;refine⟨ρ,ev,S,_,S1,hE,hS,q1,fun v ρ1 H1 E1 hS1 r1=>?_⟩;unfold Rep at r1;obtain⟨p,rfl,hp⟩:=r1;obtain⟨us,hu,ru⟩:=hS1.ob a _ p hd hp;have e0:=zf0 hS1 (.lst []) hp;exact⟨.inl ⟨rfl,_,SqL.of hu⟩,p,us,rfl,rfl,hu,k .non ρ1 _ (E1.trans e0) (hS1.set hp ⟨_,qg,RepL.nil⟩) rfl⟩
     · cases hf
   |_=>cases hf
end
end F
namespace F
open PySem L2 PySem.Spec PyProof.Rows PySem.W PySem.Calls
theorem zuz:typeLookup (.type "list_reverseiterator") "__len__"=pure none:=by rw[typeLookup_type,builtinLookup_eq_fast];kernel_rfl
theorem zqo:typeLookup (.type "list_reverseiterator") "__length_hint__"=pure (some (.builtin "list_reverseiterator.__length_hint__")):=by rw[typeLookup_type,builtinLookup_eq_fast];kernel_rfl
theorem zuy:isSubtype (.type "list_reverseiterator") (.type "list_reverseiterator")=pure true:=by rw[isSubtype_type];kernel_rfl
section
variable {prog:Program}{w:World}{A:Around}{s:Shared}{it l:Addr}{items:Array Value}
def zpb(items:Array Value):Nat->Value->Prop:=fun i v=>items[items.size-1-i]? = some v
theorem zp0{E:zVP}{Q:Bool->Shared->Prop}{i:Int}(hit:s.heap.IsRevIter it l i)(h:Q false s):wpAny (model prog w) A (Builtin.List.listLengthHint (.ref it)) Q E s:=by unfold Builtin.List.listLengthHint;refine z4u (wpAny_specialOf hit.typeIs zuz ?_);refine z4u (wpAny_specialOf (name:=Str.ofString "__length_hint__") hit.typeIs zqo ?_);refine z4u (wpAny_isInstance hit.typeIs zuy ?_);exact z5e h
variable {R:Result->Shared->Prop}
theorem zk0(hh:A.handled=none)(hne:l≠it)(hl:s.heap.IsList l items)(hit:s.heap.IsRevIter it l ((items.size:Int)-1))(hn:items.size<=sizeLine){S:Addr}{c₀:Nat}
   (hS:s.heap.get? S=some { cls:=.type "list",data:=.seq #[] c₀ }) (h1:S≠it) (h2:S≠l)
   (hR:∀s' acc' c',Moved [S,it] (fun a b=>b=a) s s'->s'.heap.get? S=some { cls:=.type "list",data:=.seq acc' c' }->ItemsOf (zpb items) acc' items.size->R (.ok (.ret .none)) s') :
   wpAny (model prog w) A.in1 (Builtin.List.listExtendWith (.ref S) (.ref it) .none) (fun fin s'=>match fin with
     | .done f=>R (.ok f) s'
     | .again c'=>c'.quiet=true/\codeAny (model prog w) A c' R s') (fun e s'=>R (.error e) s') s:=by
 have W:=(Walks.listRev (prog:=prog) (w:=w) (A:=A.in1) hh it l hne items).toS;have st0:(0:Nat)<=items.size/\s.heap.IsRevIter it l ((items.size:Int)-1-((0:Nat):Int))/\s.heap.IsList l items:=⟨z5y _,by simpa using hit,hl⟩
 have nf:S∉[it,l]:=by simp[h1,h2]
 have ns:Builtin.List.listSameRef (.ref S) (.ref it)=false:=by unfold Builtin.List.listSameRef;simpa using h1
 unfold Builtin.List.listExtendWith;refine z4u (wpAny_typeOf hit.typeIs ?_);rw[ns,z5n (by decide)];refine z4u (W.self 0 _ _ _ st0 (z4u (wpAny_holding (zp0 hit ?_))));rw[z5n (by decide +kernel)];refine z5e ⟨plainId_quiet F.plain_extend_loop _,?_⟩;exact codeAny_extend_loopS W hn S nf .none items.size 0 s #[] c₀ (Nat.sub_zero _) (z5y _) st0 hS (ItemsOf.nil _) fun s' acc' c' m hs ha=>hR s' acc' c' m hs ha
theorem zpz(hh:A.handled=none)(hne:l≠it)(hl:s.heap.IsList l items)(hit:s.heap.IsRevIter it l ((items.size:Int)-1))(hn:items.size<=sizeLine){S:Addr}
   (hS:s.heap.get? S=some { cls:=.type "list",data:=.seq #[] }) (h1:S≠it) (h2:S≠l)
   (hR:∀s' acc' c',Moved [S,it] (fun a b=>b=a) s s'->s'.heap.get? S=some { cls:=.type "list",data:=.seq acc' c' }->ItemsOf (zpb items) acc' items.size->R (.ok (.ret .none)) s') :
   wpAny (model prog w) A.in1 (Builtin.«list.__init__» ⟨[.ref S,.ref it],[]⟩) (fun fin s'=>match fin with
     | .done f=>R (.ok f) s'
     | .again c'=>c'.quiet=true/\codeAny (model prog w) A c' R s') (fun e s'=>R (.error e) s') s:=by
 show wpAny _ A.in1 (Builtin.List.listItems (.ref S) >>= fun old=>Builtin.List.listUpdate (.ref S) (fun _=>#[]) >>= fun _=>letGo old.toList.reverse >>= fun _=>Builtin.List.listExtendWith (.ref S) (.ref it) .none) _ _ s;unfold Builtin.List.listItems;refine z4u (z4u (wpAny_seqItems hS rfl (z5e ?_)));unfold Builtin.List.listUpdate;refine z4u (wpAny_updateSeq hS rfl (z4u (wpAny_letGo ?_)));have hS2:=z9b (Obj.mapSeq (fun _=>(#[]:Array Value))) hS rfl;have keep:∀b o,b≠S->s.heap.get? b=some o->(s.heap.update S (Obj.mapSeq (fun _=>(#[]:Array Value)))).get? b=some o:=fun b o hb e=>(z80 _ _ (z7e hb)).trans e;refine zk0 hh hne (hl.at fun o e=>keep l o (z7e h2) e) (hit.at fun o e=>keep it o (z7e h1) e) hn hS2 h1 h2 fun s' acc' c' m hs ha=>hR s' acc' c' ?_ hs ha;exact Moved.trans (fun _ _ _ p q=>q.trans p) ((Moved.refl (wr:=[S,it]) (G:=fun a b=>b=a) (s:=s) fun _=>rfl).then_heap (z4v _) fun b o hb e=>keep b o (fun z=>hb (by simp[z])) e) m
theorem zf8{E:zVP}{Q:zVP}(hh:A.handled=none)(hne:l≠it)(hl:s.heap.IsList l items)(hit:s.heap.IsRevIter it l ((items.size:Int)-1))(hn:items.size<=sizeLine)
   (hQ:∀s' acc' c',Moved [s.heap.objs.size,it] (fun a b=>b=a) { s with heap:=s.heap.push { cls:=.type "list",data:=.seq #[] } } s'->s'.heap.get? s.heap.objs.size=some { cls:=.type "list",data:=.seq acc' c' }->ItemsOf (zpb items) acc' items.size->Q (.ref s.heap.objs.size) s') :
   wpAny (model prog w) A (call (.type "list") [.ref it]) Q E s:=by
 obtain⟨o1,e1,_⟩:=id hl;obtain⟨o2,e2,_⟩:=id hit;refine callType_codes (Q₁:=fun obj s₁=>obj=.ref s.heap.objs.size/\s₁={ s with heap:=s.heap.push { cls:=.type "list",data:=.seq #[] } }) F.called_list (F.typeCall_list_1 _) F.entry_list_init (code_list_new _ ⟨rfl,rfl⟩) fun obj s₁ h₁=>?_;obtain⟨rfl,rfl⟩:=h₁;have hS:(s.heap.push { cls:=.type "list",data:=.seq #[] }).get? s.heap.objs.size=some { cls:=.type "list",data:=.seq #[] }:=z5s _ rfl;refine⟨⟨_,hS,rfl⟩,F.args_list_init_2 _ _,zpz (A:=A.in1) hh hne (hl.at fun o e=>z4z _ e) (hit.at fun o e=>z4z _ e) hn hS ?_ ?_ fun s' acc' c' m hs ha=>⟨rfl,hQ s' acc' c' m hs ha⟩⟩
 · exact fun z=>z61 _ (z▸z5f e2)
 · exact fun z=>z61 _ (z▸z5f e1)
end
section
variable {X:Cx}{e:Expr}{te:TE}{f:E}{p p2 pos pos2:Pos}
theorem zgf:bootBuiltins "reversed"=some (.type "reversed"):=by with_unfolding_all rfl
theorem zmz{its:List Value}{acc:Array Value}(h:ItemsOf (zpb its.toArray) acc its.toArray.size):acc=its.reverse.toArray:=by
 apply Array.toList_inj.mp;obtain⟨h1,h2⟩:=h;rw[z45]at h1;have l1:acc.toList.length=its.length:=by rw[Array.length_toList];exact h1
 apply List.ext_getElem
 · rw[l1,z6g]
 · intro j q1 q2;have q3:j<its.length:=by rw[<-l1];exact q1
   have e1:acc[j]? = some acc.toList[j]:=by rw[<-z57];exact z4x q1
   have e2:=h2 j _ e1;unfold zpb at e2;rw[z45,<-z57,z4x (by show its.length-1-j<its.length;omega)]at e2;have e3:=z53 e2;rw[<-e3,List.getElem_reverse]
def z3n(K:zFr)(te:TE):TE:=fun σ H Q=>te σ H fun x H1=>∃a xs,x=.ref a/\SqL K H1 a xs/\∀l,H1 l=none->Q (.ref l) (upd H1 l (.lst xs.reverse))
theorem zk3(he:PE X e te)(hc:X.calm=true)(hm:X.mg "list"=none)(hm2:X.mg "reversed"=none)(hg:Gl X "list")(hg2:Gl X "reversed")
   (h1:starEach [.Call (.Name "reversed" p2) [e] [] pos2] X.env=(false,eval (.Call (.Name "reversed" p2) [e] [] pos2) X.env)::starEach [] X.env) (h2:starEach [e] X.env=(false,eval e X.env)::starEach [] X.env) :
   PE X (.Call (.Name "list" p) [.Call (.Name "reversed" p2) [e] [] pos2] [] pos) (z3n X.K te):=by
 intro pins s σ H Q I h;refine z6n (zdk I hg hm boot_list ?_ (by decide) (by decide));refine z7k ?_ h1 rfl;rw[h1];show wpAny _ _ (spliced ((false,eval (.Call (.Name "reversed" p2) [e] [] pos2) X.env)::[])) _ _ s;refine PySem.Calls.spliced_cons ?_;refine z6n (zdk I hg2 hm2 zgf ?_ (by decide) (by decide));have h':=zfk he zng h2 pos2 pins s σ H (fun vs H1=>match vs with
   | [x]=>∃a xs,x=.ref a/\SqL X.K H1 a xs/\∀l,H1 l=none->Q (.ref l) (upd H1 l (.lst xs.reverse))
   |_=>False) I h
 refine z7k (thn h' fun us s1 ⟨vs,H1,I1,r1,q1⟩=>?_) h2 rfl
 match vs,r1,q1 with
 | [x],r1,q1=>
   obtain⟨a,xs,rfl,hq,q⟩:=q1;obtain⟨u,rfl,ru⟩:=r1.one;cases ru;obtain⟨its,rv,pl,hz⟩:=I1.list hq;have hlen:=rv.length;have hl:s1.heap.IsList a its.toArray:=pl.isList;obtain⟨oa,ea,_⟩:=id hl;refine call_reversed_list hl ?_;refine PySem.Calls.spliced_nil ?_;have hne:a≠s1.heap.objs.size:=fun z=>z61 _ (z▸z5f ea);refine zf8 (items:=its.toArray) (I.ok.hd hc) hne (hl.at fun o e=>z4z _ e) ⟨_,z5s _ rfl,rfl,rfl⟩ (by rw[z45];omega) fun s' acc' c' m hs ha=>?_;have es:=zmz ha;subst es;obtain⟨h',g',d',t',o'⟩:=s';have e1:=m.gens;have e2:=m.drawn;have e3:=m.os;dsimp only at e1 e2 e3 hs;subst e1 e2 e3;have sz:(s1.heap.push (revObj a ((its.toArray.size:Int)-1))).objs.size=s1.heap.objs.size+1:=z9z ..;have kp:∀b o,s1.heap.get? b=some o->h'.get? b=some o:=fun b o e=>by have lt:=z5f e;refine m.heap b o ?_ (z4z _ (z4z _ e));simp only[sz,z46,List.not_mem_nil,or_false,not_or];exact⟨z5h (z8i lt),z5h lt⟩
   rw[sz]at hs;refine⟨.ref (s1.heap.objs.size+1),_,I1.laid (t':=t') (h':=h') kp (z97 _) (show ObjOk X.prog X.w _ h' _ (.lst xs.reverse) from⟨by rw[z6g];exact hz,its.reverse,c',rv.reverse,hs⟩),?_,q _ (I1.hok.fresh (z97 _))⟩;show Value.ref _=Value.ref _;rw[sz]
def zb0(f:E):E:=fun ev S=>(f ev S).bind fun p=>match p.1 with
 | .lst ds=>some (.lst ds.reverse,p.2)
 |_=>none
theorem ze0(hm:X.mg "list"=none)(hm2:X.mg "reversed"=none)(he:FE X e f)(hc:X.calm=true:=by rfl)(hg:Gl X "list":=by rfl)(hg2:Gl X "reversed":=by rfl)
   (h1:starEach [.Call (.Name "reversed" p2) [e] [] pos2] X.env=(false,eval (.Call (.Name "reversed" p2) [e] [] pos2) X.env)::starEach [] X.env:=by exact zy rfl) (h2:starEach [e] X.env=(false,eval e X.env)::starEach [] X.env:=by exact zy rfl) :
   FE X (.Call (.Name "list" p) [.Call (.Name "reversed" p2) [e] [] pos2] [] pos) (zb0 f) :=
 qz (zk3 he hc hm hm2 hg hg2 h1 h2) fun σ H Q h=>by
   obtain⟨ρ,ev,S,d,S',hE,hS,hf,k⟩:=h;obtain⟨⟨x,S1⟩,q1,hf⟩:=zv hf;cases x with
   | lst ds=>
     cases hf;refine⟨ρ,ev,S,_,S1,hE,hS,q1,fun v ρ1 H1 E1 hS1 r1=>?_⟩;obtain⟨b,us,rfl,t,r⟩:=r1.refL;exact⟨b,us,rfl,t.sq,fun l hl=>k _ ρ1 _ (E1.trans (jl hS1 _ hl)) (hS1.new _ hl) (Rep.lst (s:=hS1) hl r.reverse)⟩
   |_=>cases hf
end
end F
namespace F
open PySem L2 PySem.Spec PySem.Calls PyProof.Rows PySem.W
open Classical in
def ze5(g:G)(a:As)(q:Nat)(t:LT)(cl:zLA)(is:List Nat):E:=fun ev S=>(a ev S).bind fun p=>match ev[q]? with
 |some (some (.lam t'))=>if t'={ t with cl:=cl }then (zf7 ev is).bind fun vs=>(g (p.1++[.clo t vs]) p.2).bind fun r=>if(noC r.1&&zb7 r.2)=true then some r else none else none
 |_=>none
def z3w(K:Frag)(mg:zMg)(q:Nat)(t:LT)(cl:zLA)(f:As):TA:=fun σ H Q=>∃ρ ev S ds S',EnvR K mg ρ H ev σ/\StOk K mg ρ H S/\f ev S=some (ds,S')/\ev[q]? = some (some (.lam { t with cl:=cl })) /\
 ∀vs a c pm ct ρ' H',Ext ρ H ρ' H'->StOk K mg ρ' H' S'->RepL K mg ρ' H' ds vs->a∉ρ'->c∉ρ'->H' a=some (.ext (zki t cl a c pm ct))->H' c=some (.ext (yj c t.qual))->Q (vs++[.ref a]) H'
def FAD(X:Cx)(es:List Expr)(q:Nat)(t:LT)(cl:zLA)(f:As):Prop:=PA X es (z3w X.K X.mg q t cl f)
section
variable {X:Cx}{t:LT}{cl:zLA}{q:Nat}
theorem zj8{e:Expr}(h:FE X e (eV q))(hs:starEach [e] X.env=[(false,eval e X.env)]:=by exact zy rfl):FAD X [e] q t cl aN :=
 zfj (zfk h zng hs) fun σ H Q h=>by obtain⟨ρ,ev,S,ds,S',hE,hS,hf,hj,k⟩:=h;cases hf;refine⟨ρ,ev,S,.lam { t with cl:=cl },S,hE,hS,by simp[eV,hj],fun v ρ1 H1 E1 hS1 r1=>?_⟩;unfold Rep at r1;obtain⟨a,rfl,n1,c,pm,ct,n2,h1,h2⟩:=r1;exact k [] a c pm ct ρ1 H1 E1 hS1 RepL.nil n1 n2 h1 h2
theorem zc1{e:Expr}{es:List Expr}{f:E}{g:As}(ha:FE X e f)(hr:FAD X es q t cl g)(hs:starEach (e::es) X.env=(false,eval e X.env)::starEach es X.env:=by exact zy rfl):FAD X (e::es) q t cl (aC f g) :=
 zfj (zfk ha hr hs) fun σ H Q h=>by obtain⟨ρ,ev,S,d,S',hE,hS,hf,hj,k⟩:=h;obtain⟨⟨x,S1⟩,q1,hf⟩:=zv hf;obtain⟨⟨y,S2⟩,q2,hf⟩:=zv hf;cases hf;refine⟨ρ,ev,S,x,S1,hE,hS,q1,fun v ρ1 H1 E1 hS1 r1=>⟨ρ1,ev,S1,y,_,hE.mono E1,hS1,q2,hj,fun vs a c pm ct ρ2 H2 E2 hS2 r2 n1 n2 h1 h2=>?_⟩⟩;exact k (v::vs) a c pm ct ρ2 H2 (E1.trans E2) hS2 (RepL.cons (r1.mono E2) r2) n1 n2 h1 h2
end
section
variable {X:Cx}{k q:Nat}{x:Str}{g:G}{a:As}{t:LT}{cl:zLA}{is:List Nat}{e:Expr}{es:List Expr}{p pos:Pos}
theorem zj6(cal:Cal X.prog X.w X.K X.mg X.base k x g)(C:CapsOk X t cl is)(hr:Room k X.A)(ha:FAD X (e::es) q t cl a)(hg:Gl X x:=by rfl)(hdb:(x==("__debug__":Str))=false:=by decide)
   (he:starEach (e::es) X.env=(false,eval e X.env)::starEach es X.env:=by exact zy rfl) (hpl:(backTo pos (starEach es X.env)).any (·.1)=false:=by exact qx rfl) :
   FE X (.Call (.Name x p) (e::es) [] pos) (ze5 g a q t cl is):=by
 obtain⟨f,fd,ps,ds,dvs,dds,gg,F,hm,hk,hb,hd,hdd,hgg⟩:=cal.ex;intro pins s σ H Q I h;obtain⟨ρ,ev,S,d,S',hE,hS,hf,kk⟩:=h;unfold ze5 at hf;obtain⟨⟨as,S1⟩,q1,hf0⟩:=zv hf;clear hf;dsimp only at hf0;split at hf0
 · rename_i t' hj;split at hf0
   · rename_i hyu;subst hyu;obtain⟨kv,q2,hf⟩:=zv hf0;obtain⟨⟨d1,S2⟩,q3,hf⟩:=zv hf;dsimp only at hf;split at hf
     · rename_i hno;cases hf;rw[z50]at hno;obtain⟨n1,n2⟩:=hno;refine z6n (zas I hg hm ?_ hdb);refine z7r (h₀:=X.base) I.ok.mod.kin hk (thn (ha pos pins s σ H (fun vs H1=>∃ws a c pm ct ρ1,vs=ws++[.ref a]/\Ext ρ H ρ1 H1/\StOk X.K X.mg ρ1 H1 S1/\RepL X.K X.mg ρ1 H1 as ws/\a∉ρ1/\c∉ρ1/\H1 a=some (.ext (zki t cl a c pm ct))/\H1 c=some (.ext (yj c t.qual))) I ⟨ρ,ev,S,as,S1,hE,hS,q1,hj,fun vs a c pm ct ρ1 H1 E1 hS1 r1 m1 m2 m3 m4=>⟨vs,a,c,pm,ct,ρ1,rfl,E1,hS1,r1,m1,m2,m3,m4⟩⟩) fun us s1 ⟨vs,H1,I1,r,ws,a',c,pm,ct,ρ1,ev1,E1,hS1,r1,m1,m2,m3,m4⟩=>⟨I1.kIn,?_⟩) he hpl;subst ev1;have E2:=C.ext (ρ:=ρ1) I1;have hS2:=C.st I1 hS1;obtain⟨cs,hcs,rk⟩:=zb4 C I1 (hE.mono E1) hS1 cl is kv (fun _ h=>h) (by
         rw[C.at_,<-C.names,z8b];rfl) q2
       rw[C.names]at hcs;have rc:Rep X.K X.mg ρ1 (trk H1 s1.heap cl) (.clo t kv) (.ref a'):=by unfold Rep;exact⟨a',cs,rfl,⟨m1,c,pm,ct,cl,m2,E2.keep _ _ m3 m1,E2.keep _ _ m4 m2,C.nodup I1,hcs⟩,rk.mono E2⟩
       have cin:=C.cin I1;have hsp:spG X.K X.mg gg ((ws++[.ref a'])++dvs) (trk H1 s1.heap cl) (fun v H'=>CellsIn H' cl->Q v (zba H' cl)) E0 :=
         ⟨ρ1,(as++[.clo t kv])++dds,S1,d,S',((r1.mono E2).append (RepL.cons rc RepL.nil)).append (hdd _ _),hS2,hgg _ _ _ q3,fun v ρ' H' E' hS' r' ci=>by
           refine kk v ρ' (zba H' cl) (E1.trans ⟨E'.pre,fun b o hb nb=>?_,fun b hb nb=>?_⟩) (hS'.off ci n2) (r'.off ci n1)
           · have z:b∉cl.map (·.2):=fun z=>by rw[C.hn I1 b z]at hb;cases hb
             rw[jg z];exact E'.keep b o (E2.keep b o hb nb) nb
           · have:=E'.new b hb nb;by_cases z:b∈cl.map (·.2)
             · exact C.hn I1 b z
             · unfold trk at this;rw[qp z]at this;exact this⟩
       have r2:Vals ((ws++[.ref a'])++dvs) (us++ds):=r.append hd;have hl:(us++ds).length=ps.length:=by rw[<-r2.length];exact F.len _ _ _ _ hsp
       refine z9i (z8p (F.run X.A X.stack s1 (trk H1 s1.heap cl) ⟨us,[]⟩ (us++ds) _ _ E0 hr (C.env0 I1) (hb s1 us I1.kIn hl) r2 hsp) fun r s' hq=>?_);cases r with
       |error e=>exact hq.elim
       | ok fl=>
         cases fl with
         | ret u=>
           obtain⟨v,H',os,bare,un,hok,rv,q⟩:=hq;have ci:CellsIn H' cl:=fun b hb=>let⟨o,z⟩:=cin b hb;⟨o,un.frzs b o _ z⟩;obtain⟨hh,gn,dr,tt,os'⟩:=s';obtain rfl:os'=s1.os:=os;refine⟨v,zba H' cl,I1.call (h':=hh) (g':=gn) (d':=dr) (t':=tt) (ch:=[]) (zr1 (C.hn I1) un (fun b hb=>let⟨o,_,z,_⟩:=C.isc I1 b hb;⟨o,z⟩) (fun b o w z=>(hok b _ z).1)) (zig hok ci) bare (fun b z=>absurd z (by simp)),rv,q ci⟩
         |next=>exact False.elim hq
         |brk=>exact False.elim hq
         |cont=>exact False.elim hq
     · cases hf
   · cases hf0
 · cases hf0
end
def spA(K:Frag)(mg:zMg)(gs:zLA->G):Sp:=fun vs H Q E=>∀cl,spG K mg (gs cl) vs H Q E
open Classical in
def gA(gs:zLA->G):G:=fun ds S=>if h:∃r,∀cl,gs cl ds S=some r then some h.choose else none
theorem z2c{gs:zLA->G}{ds:List D}{S:Sto}{r:D×Sto}(h:∀cl,gs cl ds S=some r):gA gs ds S=some r:=by
 have e:∃r,∀cl,gs cl ds S=some r:=⟨r,h⟩
 unfold gA;rw[dif_pos e];exact(e.choose_spec []).symm.trans (h [])
theorem zx5{gs:zLA->G}{ds:List D}{S:Sto}{r:D×Sto}(h:gA gs ds S=some r)(cl:zLA):gs cl ds S=some r:=by
 unfold gA at h;split at h
 · rename_i e;cases h;exact e.choose_spec cl
 · cases h
theorem zwp{K:Frag}{mg:zMg}{gs:zLA->G}{vs:List V}{H:Hp}{Q:VK}{E:XK}(h:spG K mg (gA gs) vs H Q E):spA K mg gs vs H Q E:=fun cl=>by obtain⟨ρ,ds,S,d,S',r,hS,hf,k⟩:=h;exact⟨ρ,ds,S,d,S',r,hS,zx5 hf cl,k⟩
section
variable {P:Program}{w:World}{K:Frag}{mg:zMg}{base:Heap}{x qual:Str}{st:Stmt}{N ps:List Str}{k:Nat}{b:zLA->C}{dV:Value}{f:Addr}{fd:FuncData}
theorem FunD.okA(F:FunD K x qual st f fd dV){y:Str}(hm:mg y=some (.ref f))(S:FnScope N ps (zh st))
   (hbody:∀(cdv:Value),zb6 K mg y cdv->∀(A:Around) (outer:List Env) (s:Shared) (H:Hp) (E:XK),Room k (A.deeper (envOfC qual (zh st) s.heap.objs.size f cdv)) ->
     ∃cl,FSs (zbp CX0 P w K mg base N qual (zh st) f cdv A outer s H E).nox (jb st) (b cl)):FnOk P w K mg base CX0 (k+1) f fd ps (spG K mg (gA fun cl=>z5 N.length ps.length (b cl))):=by
 have co:=F.code hm;obtain⟨oc,od,kV,doc,pm,an,cdv,ct,osl,rfl,lk,hcd⟩:=F.ex;refine zqy lk hcd S (fun vs H Q E h=>?_) fun A outer s H vs Q E hr hsp=>?_
 · obtain⟨ρ,ds,S,d,S',r,hS,hf,k⟩:=h;rw[<-r.length];exact zd8 (zx5 hf [])
 · obtain⟨cl,hb⟩:=hbody cdv co A outer s H E hr;exact⟨_,hb.nox,ziv (zwp hsp cl)⟩
abbrev z2z(P:Program)(w:World)(K:Frag)(mg:zMg)(base:Heap)(N:List Str)(x qual:Str)(st:Stmt)(k:Nat)(b:zLA->C):Prop :=
 ∀(f:Addr) (cdv:Value),zb6 K mg x cdv->∀(A:Around) (outer:List Env) (s:Shared) (H:Hp) (E:XK),Room k (A.deeper (envOfC qual (zh st) s.heap.objs.size f cdv)) ->
     ∃cl,FSs (zbp CX0 P w K mg base N qual (zh st) f cdv A outer s H E).nox (jb st) (b cl)
theorem HasDef.calA(h:HasDef K mg x st 0)(S:FnScope N ps (zh st))(hb:zti x x st ps)(hbody:z2z P w K mg base N x x st k b):Cal P w K mg base (k+1) x (gA fun cl=>z5 N.length ps.length (b cl)):=by obtain⟨f,fd,dV,F,hm,rfl⟩:=h.ex;exact⟨f,fd,ps,[],[],[],_,F.okA hm S fun cdv co A outer s H E hr=>hbody f cdv co A outer s H E hr,hm,F.kp,F.binds0 hb,.nil,fun _ _=>RepL.nil,fun args S r e=>by rw[z5q];exact e⟩
end
end F
namespace F
open PySem L2 PySem.Spec PyProof.Rows
def zle:List V->List V->Option Bool
 | [],[]=>some false
 | [],_::_=>some true
 |_::_,[]=>some false
 | .int x::xs,.int y::ys=>if x=y then zle xs ys else some (decide (x<y))
 | .str x::xs,.str y::ys=>if x=y then zle xs ys else some (decide (x.cps.toList<y.cps.toList))
 |_::_,_::_=>none
inductive FlatAre:List Value->List V->Prop
 |nil:FlatAre [] []
 |int (a:Int) (t:Tok) {vs:List Value}{ns:List V}:FlatAre vs ns->FlatAre (.int a t::vs) (.int a::ns)
 |str (a:Str) (t:Tok) {vs:List Value}{ns:List V}:FlatAre vs ns->FlatAre (.str a t::vs) (.str a::ns)
theorem FlatAre.length{vs:List Value}{ns:List V}(h:FlatAre vs ns):vs.length=ns.length:=by
 induction h with
 |nil=>rfl
 |int _ _ _ ih=>rw[List.length_cons,List.length_cons,ih]
 |str _ _ _ ih=>rw[List.length_cons,List.length_cons,ih]
theorem zq9(A:Around)(s:Shared)(a:Str)(t:Tok)(c:Str)(u:Tok):∃e,SeqAt.EqAt A s (.str a t) (.str c u) e/\(e=true↔a=c) :=
 ⟨(a==c),SeqAt.EqAt.str_str a t c u,by simp⟩
theorem zp5(A:Around)(s:Shared)(a:Str)(t:Tok)(c:Str)(u:Tok)(prog:Program)(w:World)(E:zVP)(Q:zVP)(h:Q (.bool (decide (a.cps.toList<c.cps.toList))) s) :
   wpAny (model prog w) A (richCompare .Lt (.str a t) (.str c u)) Q E s :=
 (PyProof.Rows.lt_str h:wpAny (model prog w) A (compareOp .Lt (.str a t) (.str c u)) Q E s)
section
open PySem.SeqAt
open PySem.AutoSeq1 (wpAny_loadPart')
open PySem.MeetsSeq PySem.MeetsSeq2 PySem.MeetsSeq3
theorem zfd(l b:Addr)(items items2:Array Value)(n n2:Nat)(dd dd2:Option Addr)(sl sl2:Array (Option Value))(ns ms:List V)(res:Bool)(hres:zle ns ms=some res)(hi:FlatAre items.toList ns)(hj:FlatAre items2.toList ms) :
   Meets (Builtin.«tuple.__lt__» ⟨[.ref l,.ref b],[]⟩)
     (fun _ R s=>s.heap.get? l=some { cls:=.type "tuple",dict:=dd,data:=.seq items n,slots:=sl }/\s.heap.get? b=some { cls:=.type "tuple",dict:=dd2,data:=.seq items2 n2,slots:=sl2 } /\
       R (.ok (.ret (.bool res))) s) :=
 .of_wp fun prog w A R s h=>by
   obtain⟨hp,g,d,tk,os⟩:=s;obtain⟨hl,hb,h⟩:=h;have f2:=AutoSeq1.sub_tuple_tuple;have z1:items.size=ns.length:=by rw[<-hi.length];simp
   have z2:items2.size=ms.length:=by rw[<-hj.length];simp
   wp_walk using wpAny_loadPart' hl,wpAny_loadPart' hb,wpAny_forIn_list _ (fun rest b s'=>b.1=none/\s'=⟨hp,g,d,tk,os⟩/\∃(vs ws:List Value) (ns' ms':List V) (r:Bool),rest=vs.zip ws /\
     FlatAre vs ns'/\FlatAre ws ms'/\ns'.length+items2.size=ms'.length+items.size/\zle ns' ms'=some r/\R (.ok (.ret (.bool r))) ⟨hp,g,d,tk,os⟩) _
   case turn=>
     rintro⟨y,x⟩ rest b s' ⟨hb',rfl,vs,ws,ns',ms',r,hz,hvi,hwi,hlen,hl,hR⟩;cases hvi with
     |nil=>rw[List.zip_nil_left]at hz;cases hz
     | int a t hvi'=>
       cases hwi with
       |nil=>rw[List.zip_nil_right]at hz;cases hz
       |str c u hwi'=>cases hl
       | int c u hwi'=>
         rw[List.zip_cons_cons]at hz;injection hz with hyx hrest;injection hyx with hy hx;subst hy hx;simp only[zle]at hl;simp only[List.length_cons]at hlen;obtain⟨e,he,hiff⟩:=HT.eqAt_int A.in1 ⟨hp,g,d,tk,os⟩ a t c u;refine z4u (he prog w _ _ ?_);cases e with
         | true=>
           rw[z5g (hiff.mp rfl)]at hl
           wp_walk
           exact⟨rfl,rfl,_,_,_,_,_,hrest,hvi',hwi',by omega,hl,hR⟩
         | false=>
           rw[z5n (fun q=>absurd (hiff.mpr q) z6m)]at hl;cases hl;have hri:=HT.rcLt_int A.in1 ⟨hp,g,d,tk,os⟩ a t c u prog w
           wp_walk using hri
           exact⟨_,rfl,by simpa using hR⟩
     | str a t hvi'=>
       cases hwi with
       |nil=>rw[List.zip_nil_right]at hz;cases hz
       |int c u hwi'=>cases hl
       | str c u hwi'=>
         rw[List.zip_cons_cons]at hz;injection hz with hyx hrest;injection hyx with hy hx;subst hy hx;simp only[zle]at hl;simp only[List.length_cons]at hlen;obtain⟨e,he,hiff⟩:=zq9 A.in1 ⟨hp,g,d,tk,os⟩ a t c u;refine z4u (he prog w _ _ ?_);cases e with
         | true=>
           rw[z5g (hiff.mp rfl)]at hl
           wp_walk
           exact⟨rfl,rfl,_,_,_,_,_,hrest,hvi',hwi',by omega,hl,hR⟩
         | false=>
           rw[z5n (fun q=>absurd (hiff.mpr q) z6m)]at hl;cases hl;have hri:=zp5 A.in1 ⟨hp,g,d,tk,os⟩ a t c u prog w
           wp_walk using hri
           exact⟨_,rfl,by simpa using hR⟩
   case fin=>
     rintro⟨b1,b2⟩ s' ⟨hb',rfl,vs,ws,ns',ms',r,hz,hvi,hwi,hlen,hl,hR⟩;simp only at hb';subst hb';have hv:r=decide (items.size<items2.size):=by
       cases hvi with
       | nil=>
         cases hwi with
         |nil=>cases hl;simp only[List.length_nil]at hlen;exact(z5m (by omega)).symm
         |int c u hw=>cases hl;simp only[List.length_nil,List.length_cons]at hlen;exact(z5w (by omega)).symm
         |str c u hw=>cases hl;simp only[List.length_nil,List.length_cons]at hlen;exact(z5w (by omega)).symm
       | int a t hv=>
         cases hwi with
         |nil=>cases hl;simp only[List.length_nil,List.length_cons]at hlen;exact(z5m (by omega)).symm
         |int c u hw=>rw[List.zip_cons_cons]at hz;cases hz
         |str c u hw=>rw[List.zip_cons_cons]at hz;cases hz
       | str a t hv=>
         cases hwi with
         |nil=>cases hl;simp only[List.length_nil,List.length_cons]at hlen;exact(z5m (by omega)).symm
         |int c u hw=>rw[List.zip_cons_cons]at hz;cases hz
         |str c u hw=>rw[List.zip_cons_cons]at hz;cases hz
     rw[hv]at hR
     wp_walk
     exact⟨_,rfl,by simpa [Builtin.Tuple.tupleCompareSizes] using hR⟩
   case h=>
     exact⟨rfl,rfl,items.toList,items2.toList,ns,ms,_,rfl,hi,hj,by omega,hres,h⟩
end
section
variable {prog:Program}{w:World}{A:Around}{E:zVP}{s:Shared}
theorem zld{l b:Addr}{items items2:Array Value}{ns ms:List V}{res:Bool}{Q:zVP}(hl:IsTup s.heap l items)(hb:IsTup s.heap b items2)(hres:zle ns ms=some res)(hi:FlatAre items.toList ns)(hj:FlatAre items2.toList ms)
   (hu:A.units<cLine) (h:Q (.bool res) s):wpAny (model prog w) A (compareOp .Lt (.ref l) (.ref b)) Q E s:=by
 obtain⟨⟨cls,dd,data,sl⟩,ho,hc,n,hd⟩:=id hl;obtain⟨⟨cls2,dd2,data2,sl2⟩,ho2,hc2,n2,hd2⟩:=id hb;simp only at hc hd hc2 hd2;subst hc hd hc2 hd2;exact richCompare_meets_room (op:=.Lt) ⟨_,ho,rfl⟩ ⟨_,ho2,rfl⟩ PySem.F.slot_tuple_lt PySem.F.entry_tuple_lt (PySem.F.args_tuple_lt_2 _ _) (zfd l b items items2 n n2 dd dd2 sl sl2 ns ms res hres hi hj)
   ⟨ho,ho2,show Value.bool res≠Value.notImplemented/\Q (.bool res) s from⟨(fun x=>nomatch x),h⟩⟩ hu
end
def zy9:D->Option V
 | .int i=>some (.int i)
 | .str z=>some (.str z)
 |_=>none
def zfx:List D->Option (List V)
 | []=>some []
 |d::ds=>(zy9 d).bind fun x=>(zfx ds).map (x::·)
def zk7:D->D->Option D
 | .int i,.int j=>some (.bl (decide (i<j)))
 | .str x,.str y=>some (.bl (decide (x.cps.toList<y.cps.toList)))
 | .tup a,.tup b=>(zfx a).bind fun x=>(zfx b).bind fun y=>(zle x y).map .bl
 |_,_=>none
section
variable {X:Cx}{K:zFr}{mg:zMg}
def z23(K:zFr):R2:=fun x y H Q=>(∃i j,x=.int i/\y=.int j/\Q (.bl (decide (i<j))) H)\/(∃i j,x=.str i/\y=.str j/\Q (.bl (decide (i.cps.toList<j.cps.toList))) H) \/
 ∃a b xs ys us vs r,x=.ref a/\y=.ref b/\SqT K H a xs/\SqT K H b ys/\xs=us/\ys=vs/\(∀z∈us,(∃i,z=.int i)\/∃i,z=.str i)/\(∀z∈vs,(∃i,z=.int i)\/∃i,z=.str i)/\zle us vs=some r/\Q (.bl r) H
theorem zoc{xs:List V}{its:List Value}(h:∀z∈xs,(∃i,z=.int i)\/∃i,z=.str i)(r:Vals xs its):FlatAre its xs:=by
 induction r with
 |nil=>exact .nil
 | cons p q ih=>
   have:=ih fun z hz=>h z (z40 _ hz);rcases h _ (z5c ..) with⟨i,rfl⟩ | ⟨i,rfl⟩
   · obtain⟨t,rfl⟩:=p;exact .int _ _ this
   · obtain⟨t,rfl⟩:=p;exact .str _ _ this
theorem zx1(hu:X.A.units<cLine):OpR X (compareOp .Lt) (z23 X.K):=by
 intro pins s σ H x y v u Q I rx ry h;rcases h with⟨i,j,rfl,rfl,q⟩ | ⟨i,j,rfl,rfl,q⟩ | ⟨a,b,xs,ys,us,vs,r,rfl,rfl,ha,hb,rfl,rfl,h1,h2,hl,q⟩
 · exact zqi pins s σ H _ _ v u Q I rx ry ⟨i,j,rfl,rfl,q⟩
 · exact zni pins s σ H _ _ v u Q I rx ry ⟨i,j,rfl,rfl,q⟩
 · cases rx;cases ry;obtain⟨its,r1,p1,_⟩:=I.tuple ha;obtain⟨its2,r2,p2,_⟩:=I.tuple hb;exact zld p1 p2 hl (zoc h1 (by simpa using r1)) (zoc h2 (by simpa using r2)) hu ⟨.bl r,H,I,rfl,q⟩
theorem zbh{ρ H}:∀{ds:List D}{xs vs:List V},zfx ds=some xs->RepL K mg ρ H ds vs->vs=xs/\∀z∈xs,(∃i,z=.int i)\/∃i,z=.str i
 | [],_,_,e,r=>by cases e;unfold RepL at r;exact⟨r,fun z hz=>by cases hz⟩
 | d::ds,_,_,e,r=>by
   unfold RepL at r;obtain⟨v,r',rfl,r1,r2⟩:=r;obtain⟨x,q1,e⟩:=zv e;obtain⟨xs,q2,e⟩:=yz e;subst e;obtain⟨rfl,f2⟩:=zbh q2 r2;cases d with
   | int i=>
     cases q1;cases(show v=.int i from r1);exact⟨rfl,fun z hz=>(z46.mp hz).elim (fun e=>.inl ⟨i,e⟩) (f2 z)⟩
   | str i=>
     cases q1;cases(show v=.str i from r1);exact⟨rfl,fun z hz=>(z46.mp hz).elim (fun e=>.inr ⟨i,e⟩) (f2 z)⟩
   |_=>cases q1
theorem ztz:ze7 K mg (z23 K) (fun _=>zk7):=by
 intro ρ H S x y dx dy d Q hS rx ry e k;dsimp only at e;unfold zk7 at e;split at e
 · cases e;cases(show x=.int _ from rx);cases(show y=.int _ from ry);exact .inl ⟨_,_,rfl,rfl,k _ H (Ext.refl _ _) hS rfl⟩
 · cases e;cases(show x=.str _ from rx);cases(show y=.str _ from ry);exact .inr (.inl ⟨_,_,rfl,rfl,k _ H (Ext.refl _ _) hS rfl⟩)
 · obtain⟨xs,q1,e⟩:=zv e;obtain⟨ys,q2,e⟩:=zv e;obtain⟨r,q3,e⟩:=yz e;subst e;obtain⟨p,vs,rfl,t,r1⟩:=rx.refT;obtain⟨p2,vs2,rfl,t2,r2⟩:=ry.refT;obtain⟨rfl,f1⟩:=zbh q1 r1;obtain⟨rfl,f2⟩:=zbh q2 r2;exact .inr (.inr ⟨p,p2,_,_,_,_,r,rfl,rfl,t.sq,t2.sq,rfl,rfl,f1,f2,q3,k _ H (Ext.refl _ _) hS rfl⟩)
 · cases e
theorem zzd{a b:Expr}{f g:E}{pos:Pos}{k:Nat}(hr:Room k X.A)(ha:FE X a f)(hb:FE X b g)(hm:behindInMarks .Lt b=false:=by exact kr _):FE X (.Compare a [.Lt] [b] pos) (e2 zk7 f g):=zg2 (zx1 (by have:=hr.un;omega)) ztz ha hb hm
end
section
open Classical
def yb(a:Nat)(us:List D)(c:B)(g:E)(fr:Ev):List D->Sto->Option (List D×Sto)
 | [],S=>if S[a]? = some (.lst us)then some ([],S)else none
 |d::ds,S=>if S[a]? = some (.lst us)then (c (some d::fr) S).bind fun p=>if p.1=true then (g (some d::fr) p.2).bind fun q=>(yb a us c g fr ds q.2).bind fun r=>some (q.1::r.1,r.2)else yb a us c g fr ds p.2 else none
end
theorem zoz{a:Nat}{us:List D}{c:B}{g:E}{fr:Ev}{ds:List D}{S:Sto}{r:List D×Sto}(h:yb a us c g fr ds S=some r):S[a]? = some (.lst us):=by
 cases ds with
 | nil=>
   unfold yb at h;split at h
   · assumption
   · cases h
 | cons d ds=>
   unfold yb at h;split at h
   · assumption
   · cases h
theorem ze6{a:Nat}{us:List D}{c:B}{g:E}{fr:Ev}{S:Sto}(h:S[a]? = some (.lst us)):yb a us c g fr [] S=some ([],S):=by unfold yb;rw[z5g h]
theorem zd4{a:Nat}{us:List D}{c:B}{g:E}{fr:Ev}{d:D}{ds:List D}{S:Sto}(h:S[a]? = some (.lst us)):yb a us c g fr (d::ds) S=(c (some d::fr) S).bind fun p=>if p.1=true then (g (some d::fr) p.2).bind fun q=>(yb a us c g fr ds q.2).bind fun r=>some (q.1::r.1,r.2)else yb a us c g fr ds p.2:=by rw[yb,z5g h]
end F
namespace Srt
open PySem PyProof.Rows
def j0:Bool->Keyed->Array Keyed->Nat->Nat->Nat->StateT SortSt Sem (Option Nat):=sortPriv% PySem.Builtin.gallop
def zih(beyond:Nat->StateT SortSt Sem (Option Bool))(n hint:Nat):StateT SortSt Sem (Option Nat):=do
 let mut lastofs:=0
 let mut ofs:=1
 let mut lo:=0
 let mut hi:=0
 let some right <-beyond hint | return none
 if right then
   let maxofs:=n-hint
   for _ in [0:n] do
     if ofs ≥ maxofs then break
     let some more <-beyond (hint+ofs) | return none
     if !more then break
     lastofs:=ofs
     ofs:=2*ofs+1
   lo:=hint+lastofs+1
   hi:=hint+min ofs maxofs
 else
   let maxofs:=hint+1
   for _ in [0:n] do
     if ofs ≥ maxofs then break
     let some found <-beyond (hint-ofs) | return none
     if found then break
     lastofs:=ofs
     ofs:=2*ofs+1
   lo:=hint+1-min ofs maxofs
   hi:=hint-lastofs
 for _ in [0:n] do
   if lo ≥ hi then break
   let m:=lo+(hi-lo)/2
   let some more <-beyond m | return none
   if more then lo:=m+1 else hi:=m
 return some hi
def byd(left:Bool)(key:Keyed)(arr:Array Keyed)(base i:Nat):StateT SortSt Sem (Option Bool):=do
 let x <-elem' arr (base+i)
 if left then lt' x key else return(<-lt' key x).map (!·)
theorem za7(left:Bool)(key:Keyed)(arr:Array Keyed)(base n hint:Nat):j0 left key arr base n hint=zih (byd left key arr base) n hint:=rfl
section
variable {M:Model}{A:Around}{E:zVP}{s:Shared}{n hint:Nat}{P:Nat->Bool}{beyond:Nat->StateT SortSt Sem (Option Bool)}{st:SortSt}
def zr7(beyond:Nat->StateT SortSt Sem (Option Bool))(n:Nat)(c:Option (Option Nat)×Nat×Nat):StateT SortSt Sem (Option (Option Nat)×Nat×Nat) :=
 forIn [0:n] c fun x __s=>
   if __s.snd.fst ≥ __s.snd.snd then pure (ForInStep.done (none,__s.snd.fst,__s.snd.snd))
   else do
     let __x <-beyond (__s.snd.fst+(__s.snd.snd-__s.snd.fst)/2)
     match __x with
     | some more=>
       if more=true then pure (ForInStep.yield (none,__s.snd.fst+(__s.snd.snd-__s.snd.fst)/2+1,__s.snd.snd))
       else pure (ForInStep.yield (none,__s.snd.fst,__s.snd.fst+(__s.snd.snd-__s.snd.fst)/2))
     |_=>pure (ForInStep.done (some none,__s.snd.fst,__s.snd.snd))
theorem zem(hb:∀i,i<n->∀Q:Option Bool->SortSt->Prop,Q (some (P i)) st->wpS M A E s (beyond i) Q st)(hP:∀i j,i<=j->j<n->P j=true->P i=true){lo hi:Nat}(h1:lo<=hi)(h2:hi<=n)(h3:∀i,i<lo->P i=true)(h4:∀i,hi<=i->i<n->P i=false){Q:Option (Option Nat)×Nat×Nat->SortSt->Prop}
   (h:∀k,k<=n->(∀i,i<k->P i=true)->(∀i,k<=i->i<n->P i=false)->Q (none,k,k) st):wpS M A E s (zr7 beyond n (none,lo,hi)) Q st:=by
 unfold zr7;refine z6k (I:=fun x c st'=>st'=st/\∃lo hi,c=(none,lo,hi)/\lo<=hi/\hi<=n/\(∀i,i<lo->P i=true)/\(∀i,hi<=i->i<n->P i=false)/\hi+x<=n+lo) ?_ ?_ ⟨rfl,lo,hi,rfl,h1,h2,h3,h4,z5j h2 (z5d ..)⟩
 · rintro x c st' _ hx ⟨rfl,lo,hi,rfl,h1,h2,h3,h4,h5⟩;dsimp only;by_cases e:lo ≥ hi
   · rw[z5g e];cases z7z h1 e;exact z5b (h lo h2 h3 h4)
   · rw[z5n e];have m1:lo<=lo+(hi-lo)/2:=z5d ..;have m2:lo+(hi-lo)/2<hi:=by omega
     clear e h1;generalize lo+(hi-lo)/2=m at m1 m2 ⊢;have mn:=z4w m2 h2;refine z41 (hb _ mn _ ?_);dsimp only;cases hm:P m
     · simp only[z47,z6b];refine z5b ⟨rfl,lo,m,rfl,m1,z6u mn,h3,fun i hi1 hi2=>?_,by omega⟩;cases q:P i
       · rfl
       · rw[hP _ _ hi1 hi2 q]at hm;cases hm
     · simp only[z6s];exact z5b ⟨rfl,m+1,hi,rfl,m2,h2,fun i hi1=>hP i _ (z87 hi1) mn hm,h4,by omega⟩
 · rintro c st' ⟨rfl,lo,hi,rfl,h1,h2,h3,h4,h5⟩;have:lo=hi:=by omega
   subst this;exact h lo h2 h3 h4
theorem yu(hb:∀i,i<n->∀Q:Option Bool->SortSt->Prop,Q (some (P i)) st->wpS M A E s (beyond i) Q st)(hP:∀i j,i<=j->j<n->P j=true->P i=true)(hh:hint<n){Q:Option Nat->SortSt->Prop}
   (h:∀k,k<=n->(∀i,i<k->P i=true)->(∀i,k<=i->i<n->P i=false)->Q (some k) st):wpS M A E s (zih beyond n hint) Q st:=by
 unfold zih;refine z41 (hb hint hh _ ?_);dsimp only;cases hr:P hint
 · simp only[z47,z6b];refine z41 (z6x (z6k (I:=fun x c st'=>st'=st/\∃l o,c=(none,l,o)/\l<o/\l<=hint/\P (hint-l)=false/\x<=o)
     (Q:=fun c st'=>st'=st/\∃l o,c=(none,l,o)/\l<o/\l<=hint/\P (hint-l)=false/\(hint+1<=o\/P (hint-o)=true)) ?_ ?_ ⟨rfl,0,1,rfl,Nat.one_pos,z5y _,hr,z5y _⟩) ?_)
   · rintro x c st' _ hx ⟨rfl,l,o,rfl,g1,g2,g3,g4⟩;dsimp only;by_cases e:o ≥ hint+1
     · rw[z5g e];exact z5b ⟨rfl,l,o,rfl,g1,g2,g3,.inl e⟩
     · rw[z5n e];refine z41 (hb _ (z6o (qaj ..) hh) _ ?_);dsimp only;cases hm:P (hint-o)
       · simp only[z47,z6b];have e':=Nat.lt_of_not_le e;clear e g1 g2 hx hh;exact z5b ⟨rfl,o,2*o+1,rfl,by omega,z87 e',hm,by omega⟩
       · simp only[z6s];exact z5b ⟨rfl,l,o,rfl,g1,g2,g3,.inr hm⟩
   · rintro c st' ⟨rfl,l,o,rfl,g1,g2,g3,g4⟩;exact⟨rfl,l,o,rfl,g1,g2,g3,.inl (by omega)⟩
   · rintro c st2 ⟨rfl,l,o,rfl,g1,g2,g3,g4⟩;dsimp only;refine z41 (z6x (zem hb hP (lo:=hint+1-min o (hint+1)) (hi:=hint-l) (by omega) (by omega) (fun i hi=>?_) (fun i h1 h2=>?_) (Q:=fun c st'=>st'=st2/\∃k,c=(none,k,k)/\k<=n/\(∀i,i<k->P i=true)/\(∀i,k<=i->i<n->P i=false)) fun k k1 k2 k3=>⟨rfl,k,rfl,k1,k2,k3⟩) ?_)
     · rcases g4 with g4 | g4
       · omega
       · exact hP i _ (by omega) (by omega) g4
     · cases q:P i
       · rfl
       · rw[hP _ _ h1 h2 q]at g3;cases g3
     · rintro c st' ⟨rfl,k,rfl,k1,k2,k3⟩;exact z5b (h k k1 k2 k3)
 · simp only[z6s];refine z41 (z6x (z6k (I:=fun x c st'=>st'=st/\∃l o,c=(none,l,o)/\l<o/\hint+l<n/\P (hint+l)=true/\x<=o)
     (Q:=fun c st'=>st'=st/\∃l o,c=(none,l,o)/\l<o/\hint+l<n/\P (hint+l)=true/\(n-hint<=o\/P (hint+o)=false)) ?_ ?_ ⟨rfl,0,1,rfl,Nat.one_pos,hh,hr,z5y _⟩) ?_)
   · rintro x c st' _ hx ⟨rfl,l,o,rfl,g1,g2,g3,g4⟩;dsimp only;by_cases e:o ≥ n-hint
     · rw[z5g e];exact z5b ⟨rfl,l,o,rfl,g1,g2,g3,.inl e⟩
     · rw[z5n e];have e':hint+o<n:=by clear g1 g2 g4 hx hh;omega
       refine z41 (hb _ e' _ ?_);dsimp only;cases hm:P (hint+o)
       · simp only[qag,z6s];exact z5b ⟨rfl,l,o,rfl,g1,g2,g3,.inr hm⟩
       · simp only[z7f,z47,z6b];clear e g1 g2 hx hh;exact z5b ⟨rfl,o,2*o+1,rfl,by omega,e',hm,by omega⟩
   · rintro c st' ⟨rfl,l,o,rfl,g1,g2,g3,g4⟩;exact⟨rfl,l,o,rfl,g1,g2,g3,.inl (by omega)⟩
   · rintro c st2 ⟨rfl,l,o,rfl,g1,g2,g3,g4⟩;dsimp only;refine z41 (z6x (zem hb hP (lo:=hint+l+1) (hi:=hint+min o (n-hint)) (by omega) (by omega) (fun i hi=>hP i _ (z87 hi) g2 g3) (fun i h1 h2=>?_) (Q:=fun c st'=>st'=st2/\∃k,c=(none,k,k)/\k<=n/\(∀i,i<k->P i=true)/\(∀i,k<=i->i<n->P i=false)) fun k k1 k2 k3=>⟨rfl,k,rfl,k1,k2,k3⟩) ?_)
     · rcases g4 with g4 | g4
       · omega
       · cases q:P i
         · rfl
         · rw[hP (hint+o) i (by omega) h2 q]at g4;cases g4
     · rintro c st' ⟨rfl,k,rfl,k1,k2,k3⟩;exact z5b (h k k1 k2 k3)
end
def zfm:Array Keyed->Array Keyed->StateT SortSt Sem (Array Keyed):=sortPriv% PySem.Builtin.mergeLo
def zfn:Array Keyed->Array Keyed->StateT SortSt Sem (Array Keyed):=sortPriv% PySem.Builtin.mergeHi
abbrev zbo(st:SortSt)(g:Nat):SortSt:=SortSt.mk' (kindOf st) (arrOf st) (pendingOf st) g (failedOf st)
def smg(g:Nat):StateT SortSt Sem Unit:=modify fun st=>zbo st g
theorem zia(a b:Array Keyed):zfm a b=(do
 rule "list.sort.merge-lo"
 let total:=a.size+b.size
 let done (out:Array Keyed) (ia ib:Nat):=out++a.extract ia a.size++b.extract ib b.size
 let lastOfA (out:Array Keyed) (ia ib:Nat):=out++b.extract ib b.size++a.extract ia a.size
 let mut out:Array Keyed:=#[<-elem' b 0]
 let mut ia:=0
 let mut ib:=1
 if ib==b.size then return done out ia ib
 if ia+1==a.size then return lastOfA out ia ib
 let mut minGallop:=gallopOf (<-get)
 for _ in [0:total] do
   let mut acount:=0
   let mut bcount:=0
   for _ in [0:total] do
     let some bWins <-lt' (<-elem' b ib) (<-elem' a ia) | return done out ia ib
     if bWins then
       out:=out.push (<-elem' b ib);ib:=ib+1;bcount:=bcount+1;acount:=0
       if ib==b.size then return done out ia ib
       if bcount ≥ minGallop then break
     else
       out:=out.push (<-elem' a ia);ia:=ia+1;acount:=acount+1;bcount:=0
       if ia+1==a.size then return lastOfA out ia ib
       if acount ≥ minGallop then break
   rule "list.sort.gallop"
   minGallop:=minGallop+1
   for _ in [0:total] do
     if minGallop>1 then minGallop:=minGallop-1
     smg minGallop
     let some k <-j0 false (<-elem' b ib) a ia (a.size-ia) 0 | return done out ia ib
     acount:=k
     if k>0 then
       out:=out++a.extract ia (ia+k);ia:=ia+k
       if ia+1==a.size then return lastOfA out ia ib
       if ia==a.size then return done out ia ib
     out:=out.push (<-elem' b ib);ib:=ib+1
     if ib==b.size then return done out ia ib
     let some k <-j0 true (<-elem' a ia) b ib (b.size-ib) 0 | return done out ia ib
     bcount:=k
     if k>0 then
       out:=out++b.extract ib (ib+k);ib:=ib+k
       if ib==b.size then return done out ia ib
     out:=out.push (<-elem' a ia);ia:=ia+1
     if ia+1==a.size then return lastOfA out ia ib
     if acount<7&&bcount<7 then break
   minGallop:=minGallop+1
   smg minGallop
 unsupported "internal:list.sort.merge-bound"):=rfl
section
variable {blt:Keyed->Keyed->Bool}
def le(blt:Keyed->Keyed->Bool)(x y:Keyed):Prop:=blt y x=false
structure Mg (blt:Keyed->Keyed->Bool) (T O A B:List Keyed):Prop where
 pa:(O++A).Pairwise (le blt)
 pb:(O++B).Pairwise (le blt)
 pm:(O++(A++B)).Perm T
def zvy(blt:Keyed->Keyed->Bool)(T:List Keyed)(r:List Keyed):Prop:=r.Pairwise (le blt)/\r.Perm T
variable {T O A B C:List Keyed}
theorem Mg.chunkA(h:Mg blt T O (C++A) B)(hc:∀x∈C,∀z∈B,le blt x z):Mg blt T (O++C) A B:=by
 refine⟨by rw[z48];exact h.pa,?_,?_⟩
 · have h1:=z4y.mp h.pa;have h2:=z4y.mp h.pb;have h3:=z4y.mp h1.2.1;refine z4y.mpr ⟨z4y.mpr ⟨h1.1,h3.1,fun x hx y hy=>h1.2.2 x hx y (z6a _ hy)⟩,h2.2.1,fun x hx z hz=>?_⟩;rcases z5k.mp hx with hx | hx
   · exact h2.2.2 x hx z hz
   · exact hc x hx z hz
 · have:=h.pm;rw[z48]at this ⊢;exact this
theorem Mg.chunkB(h:Mg blt T O A (C++B))(hc:∀x∈C,∀z∈A,le blt x z):Mg blt T (O++C) A B:=by
 refine⟨?_,by rw[z48];exact h.pb,?_⟩
 · have h1:=z4y.mp h.pb;have h2:=z4y.mp h.pa;have h3:=z4y.mp h1.2.1;refine z4y.mpr ⟨z4y.mpr ⟨h1.1,h3.1,fun x hx y hy=>h1.2.2 x hx y (z6a _ hy)⟩,h2.2.1,fun x hx z hz=>?_⟩;rcases z5k.mp hx with hx | hx
   · exact h2.2.2 x hx z hz
   · exact hc x hx z hz
 · refine List.Perm.trans ?_ h.pm;rw[z48];refine z7s O ?_;rw[<-z48,<-z48];exact z7o B z8c
theorem Mg.finA(h:Mg blt T O A []):zvy blt T (O++A):=⟨h.pa,by have:=h.pm;rw[z5q]at this;exact this⟩
theorem Mg.finB(h:Mg blt T O [] B):zvy blt T (O++B):=⟨h.pb,h.pm⟩
theorem Mg.lastA{x:Keyed}(h:Mg blt T O [x] B)(hx:∀z∈B,le blt z x):zvy blt T (O++(B++[x])):=by
 refine⟨?_,List.Perm.trans (z7s O z8c) h.pm⟩;have h1:=z4y.mp h.pa;have h2:=z4y.mp h.pb;refine z4y.mpr ⟨h1.1,z4y.mpr ⟨h2.2.1,z7g _ _,fun z hz y hy=>by rw[z43.mp hy];exact hx z hz⟩,fun y hy z hz=>?_⟩;rcases z5k.mp hz with hz | hz
 · exact h2.2.2 y hy z hz
 · exact h1.2.2 y hy z hz
theorem Mg.len(h:Mg blt T O A B):O.length+A.length+B.length=T.length:=by have:=h.pm.length_eq;simp only[z4t]at this;omega
def ix(a:Array Keyed)(i:Nat):Keyed:=(a[i]?).getD (.none,.none)
variable {a b:Array Keyed}{i j k:Nat}
theorem zjz(h:i<a.size):a[i]? = some (ix a i):=by unfold ix;rw[z5x h];rfl
theorem zil(h:i<a.size):a.toList.drop i=ix a i::a.toList.drop (i+1):=by
 have e:a.toList[i]'(by simpa using h)=ix a i:=by unfold ix;rw[z5x h];simp
 rw[<-e];exact z6v (by simpa using h)
theorem zow(h:i+k<=a.size):a.toList.drop i=(a.extract i (i+k)).toList++a.toList.drop (i+k):=by rw[z7c,List.extract_eq_drop_take];rw[show i+k-i=k by omega,<-z89];exact(z6e k _).symm
theorem zjv{x:Keyed}(h:x∈(a.extract i (i+k)).toList):∃j,j<k/\i+j<a.size/\x=ix a (i+j):=by rw[z7c,List.extract_eq_drop_take,show i+k-i=k by omega]at h;obtain⟨j,hj,e⟩:=z5p h;rw[z49,z5o,Array.length_toList]at hj;refine⟨j,by omega,by omega,?_⟩;rw[z7i,z7j]at e;rw[<-e];unfold ix;rw[z5x (by omega)];simp
theorem za5{x:Keyed}(h:x∈a.toList.drop i):∃j,i<=j/\j<a.size/\x=ix a j:=by obtain⟨j,hj,e⟩:=z5p h;rw[z5o,Array.length_toList]at hj;refine⟨i+j,by omega,by omega,?_⟩;rw[z7j]at e;rw[<-e];unfold ix;rw[z5x (by omega)];simp
theorem kt(h:i<a.size):ix a i∈a.toList:=by
 have e:a.toList[i]'(by simpa using h)=ix a i:=by unfold ix;rw[z5x h];simp
 rw[<-e];exact z74 _
theorem zj9:(a.extract i a.size).toList=a.toList.drop i:=by rw[z7c,List.extract_eq_drop_take];rw[<-Array.length_toList,z59 (by rw[z5o];omega)]
def zpg(blt:Keyed->Keyed->Bool)(a:Array Keyed):Prop:=∀i j,i<=j->j<a.size->le blt (ix a i) (ix a j)
theorem zff(h:zpg blt a):a.toList.Pairwise (le blt):=by
 rw[z6w];intro i j hi hj hij;have e:∀{i} (h:i<a.toList.length),a.toList[i]=ix a i:=fun {i} h=>by rw[Array.length_toList]at h;unfold ix;rw[z5x h];simp
 rw[e hi,e hj];exact h i j (by omega) (by rw[Array.length_toList]at hj;exact hj)
end
section
variable {prog:Program}{w:World}{A:Around}{E:zVP}{s:Shared}{blt:Keyed->Keyed->Bool}{U:Keyed->Prop}{kd:SortKind}{st:SortSt}{a b:Array Keyed}
structure Cmp (prog:Program) (w:World) (A:Around) (E:zVP) (s:Shared) (kd:SortKind) (U:Keyed->Prop) (blt:Keyed->Keyed->Bool):Prop where
 lt:∀x y,U x->U y->∀(st:SortSt) (Q:Option Bool->SortSt->Prop),kindOf st=kd->Q (some (blt x y)) st->wpS (model prog w) A E s (lt' x y) Q st
 asy:∀x y,blt x y=true->blt y x=false
 tr:∀x y z,blt y x=false->blt z y=false->blt z x=false
theorem qf{i:Nat}{Q:Keyed->SortSt->Prop}{M:Model}(hi:i<a.size)(h:Q (ix a i) st):wpS M A E s (elem' a i) Q st:=by rw[elem'_eq,zjz hi];exact z5b h
theorem za3{nm:String}{Q:Unit->SortSt->Prop}(h:Q () st):wpS (model prog w) A E s (liftM (rule nm):StateT SortSt Sem Unit) Q st:=wpS_lift (wpAny_rule ⟨rfl,h⟩)
theorem zfa{g:Nat}{Q:Unit->SortSt->Prop}{M:Model}(h:Q () (zbo st g)):wpS M A E s (smg g) Q st:=z76 h
theorem zi3(C:Cmp prog w A E s kd U blt)(hk:kindOf st=kd){y:Keyed}{i n hint:Nat}(uy:U y)(ua:∀x∈a.toList,U x)(sa:zpg blt a)(hn:i+n<=a.size)(hh:hint<n){Q:Option Nat->SortSt->Prop}
   (h:∀k,k<=n->(∀j,j<k->le blt (ix a (i+j)) y)->(∀j,k<=j->j<n->blt y (ix a (i+j))=true)->Q (some k) st):wpS (model prog w) A E s (j0 false y a i n hint) Q st:=by
 rw[za7];refine yu (P:=fun j=>!(blt y (ix a (i+j)))) (fun j hj Q hq=>?_) (fun j l hjl hl hp=>?_) hh fun k k1 k2 k3=>h k k1 (fun j hj=>by have:=k2 j hj;unfold le;simpa using this) (fun j h1 h2=>by have:=k3 j h1 h2;simpa using this)
 · unfold byd;refine z41 (qf (by omega) ?_);simp only[z47,z6b];exact z41 (C.lt _ _ uy (ua _ (kt (by omega))) _ _ hk (z5b hq))
 · have e:blt y (ix a (i+l))=false:=by simpa using hp
   have:=C.tr _ _ _ (sa (i+j) (i+l) (by omega) (by omega)) e;simp[this]
theorem zi2(C:Cmp prog w A E s kd U blt)(hk:kindOf st=kd){x:Keyed}{i n hint:Nat}(ux:U x)(ub:∀x∈b.toList,U x)(sb:zpg blt b)(hn:i+n<=b.size)(hh:hint<n){Q:Option Nat->SortSt->Prop}
   (h:∀k,k<=n->(∀j,j<k->blt (ix b (i+j)) x=true)->(∀j,k<=j->j<n->le blt x (ix b (i+j)))->Q (some k) st):wpS (model prog w) A E s (j0 true x b i n hint) Q st:=by
 rw[za7];refine yu (P:=fun j=>blt (ix b (i+j)) x) (fun j hj Q hq=>?_) (fun j l hjl hl hp=>?_) hh h
 · unfold byd;refine z41 (qf (by omega) ?_);simp only[z6s];exact C.lt _ _ (ub _ (kt (by omega))) ux _ _ hk hq
 · cases q:blt (ix b (i+j)) x
   · have:=C.tr x (ix b (i+j)) (ix b (i+l)) q (sb (i+j) (i+l) (by omega) (by omega));rw[this]at hp;cases hp
   · rfl
structure At (blt:Keyed->Keyed->Bool) (a b out:Array Keyed) (ia ib:Nat):Prop where
 ha:ia+1<a.size
 hb:ib<b.size
 mg:Mg blt (a.toList++b.toList) out.toList (a.toList.drop ia) (b.toList.drop ib)
structure Two (blt:Keyed->Keyed->Bool) (U:Keyed->Prop) (a b:Array Keyed):Prop where
 sa:zpg blt a
 sb:zpg blt b
 ua:∀x∈a.toList,U x
 ub:∀x∈b.toList,U x
 la:∀z∈b.toList,le blt z (ix a (a.size-1))
abbrev yk(blt:Keyed->Keyed->Bool)(a b r:Array Keyed):Prop:=zvy blt (a.toList++b.toList) r.toList
variable {out:Array Keyed}{ia ib k:Nat}
theorem At.le(h:At blt a b out ia ib):out.size+3<=a.size+b.size:=by have:=h.mg.len;simp only[z5o,z4t,Array.length_toList]at this;have:=h.ha;have:=h.hb;omega
theorem zby(m:Mg blt (a.toList++b.toList) out.toList (a.toList.drop ia) (b.toList.drop ib))(hb:ib=b.size\/ia=a.size):yk blt a b (out++a.extract ia++b.extract ib):=by
 unfold yk;rw[z5z,z5z,zj9,zj9];rcases hb with rfl | rfl
 · rw[z6l (l:=b.toList) (by simp)]at m ⊢;rw[z5q];exact m.finA
 · rw[z6l (l:=a.toList) (by simp)]at m ⊢;rw[z5q];exact m.finB
theorem zcz(T:Two blt U a b)(m:Mg blt (a.toList++b.toList) out.toList (a.toList.drop ia) (b.toList.drop ib))(ha:ia+1=a.size):yk blt a b (out++b.extract ib++a.extract ia):=by
 unfold yk;rw[z5z,z5z,zj9,zj9,z48];have e:a.toList.drop ia=[ix a ia]:=by rw[zil (by omega),z6l (by simp;omega)]
 rw[e]at m ⊢;refine m.lastA fun z hz=>?_;have:=T.la z (z7d hz);rw[show a.size-1=ia by omega]at this;exact this
theorem zm7(C:Cmp prog w A E s kd U blt)(T:Two blt U a b)(m:Mg blt (a.toList++b.toList) out.toList (a.toList.drop ia) (b.toList.drop ib))(hb:ib<b.size)(ha:ia<a.size->blt (ix b ib) (ix a ia)=true):Mg blt (a.toList++b.toList) (out.push (ix b ib)).toList (a.toList.drop ia) (b.toList.drop (ib+1)):=by rw[zil hb]at m;rw[z8j];refine Mg.chunkB (C:=[ix b ib]) m fun x hx z hz=>?_;rw[z43.mp hx];obtain⟨j,j1,j2,rfl⟩:=za5 hz;exact C.tr _ _ _ (C.asy _ _ (ha (by omega))) (T.sa ia j j1 j2)
theorem zse(C:Cmp prog w A E s kd U blt)(T:Two blt U a b)(m:Mg blt (a.toList++b.toList) out.toList (a.toList.drop ia) (b.toList.drop ib))(ha:ia<a.size)(hb:ib<b.size->le blt (ix a ia) (ix b ib)):Mg blt (a.toList++b.toList) (out.push (ix a ia)).toList (a.toList.drop (ia+1)) (b.toList.drop ib):=by rw[zil ha]at m;rw[z8j];refine Mg.chunkA (C:=[ix a ia]) m fun x hx z hz=>?_;rw[z43.mp hx];obtain⟨j,j1,j2,rfl⟩:=za5 hz;exact C.tr _ _ _ (hb (by omega)) (T.sb ib j j1 j2)
theorem zwl(C:Cmp prog w A E s kd U blt)(T:Two blt U a b)(m:Mg blt (a.toList++b.toList) out.toList (a.toList.drop ia) (b.toList.drop ib))(hk:ia+k<=a.size)(h:∀j,j<k->le blt (ix a (ia+j)) (ix b ib)):Mg blt (a.toList++b.toList) (out++a.extract ia (ia+k)).toList (a.toList.drop (ia+k)) (b.toList.drop ib):=by rw[zow hk]at m;rw[z5z];refine Mg.chunkA m fun x hx z hz=>?_;obtain⟨j,j1,j2,rfl⟩:=zjv hx;obtain⟨l,l1,l2,rfl⟩:=za5 hz;exact C.tr _ _ _ (h j j1) (T.sb ib l l1 l2)
theorem zwk(C:Cmp prog w A E s kd U blt)(T:Two blt U a b)(m:Mg blt (a.toList++b.toList) out.toList (a.toList.drop ia) (b.toList.drop ib))(hk:ib+k<=b.size)(h:∀j,j<k->blt (ix b (ib+j)) (ix a ia)=true):Mg blt (a.toList++b.toList) (out++b.extract ib (ib+k)).toList (a.toList.drop ia) (b.toList.drop (ib+k)):=by rw[zow hk]at m;rw[z5z];refine Mg.chunkB m fun x hx z hz=>?_;obtain⟨j,j1,j2,rfl⟩:=zjv hx;obtain⟨l,l1,l2,rfl⟩:=za5 hz;exact C.tr _ _ _ (C.asy _ _ (h j j1)) (T.sa ia l l1 l2)
end
section
variable {prog:Program}{w:World}{A:Around}{E:zVP}{s:Shared}{blt:Keyed->Keyed->Bool}{U:Keyed->Prop}{kd:SortKind}{st:SortSt}{a b:Array Keyed}
abbrev Gs:=Option (Array Keyed)×Array Keyed×Nat×Nat×Nat×Nat×Nat
def zp2(a b out:Array Keyed)(ia ib mg k k1:Nat):StateT SortSt Sem (ForInStep Gs):=do
 let x <-elem' a ia
 if(ia+1+1==a.size)=true then pure (ForInStep.done (some (out.push x++b.extract ib++a.extract (ia+1)),out.push x,ia+1,ib,mg,k,k1))
 else if(decide (k<7)&&decide (k1<7))=true then pure (ForInStep.done (none,out.push x,ia+1,ib,mg,k,k1))else pure (ForInStep.yield (none,out.push x,ia+1,ib,mg,k,k1))
def zp3(a b out:Array Keyed)(ia ib mg k bc:Nat):StateT SortSt Sem (ForInStep Gs):=do
 let y <-elem' b ib
 if(ib+1==b.size)=true then pure (ForInStep.done (some (out.push y++a.extract ia++b.extract (ib+1)),out.push y,ia,ib+1,mg,k,bc))
 else do
   let x <-elem' a ia
   let r <-j0 true x b (ib+1) (b.size-(ib+1)) 0
   match r with
   | some k1=>
     if k1>0 then
       if(ib+1+k1==b.size)=true then pure (ForInStep.done (some (out.push y++b.extract (ib+1) (ib+1+k1)++a.extract ia++b.extract (ib+1+k1)),out.push y++b.extract (ib+1) (ib+1+k1),ia,ib+1+k1,mg,k,k1))
       else zp2 a b (out.push y++b.extract (ib+1) (ib+1+k1)) ia (ib+1+k1) mg k k1
     else zp2 a b (out.push y) ia (ib+1) mg k k1
   |_=>pure (ForInStep.done (some (out.push y++a.extract ia++b.extract (ib+1)),out.push y,ia,ib+1,mg,k,bc))
def z0p(a b out:Array Keyed)(ia ib mg ac bc:Nat):StateT SortSt Sem (ForInStep Gs):=do
 smg mg
 let y <-elem' b ib
 let r <-j0 false y a ia (a.size-ia) 0
 match r with
 | some k=>
   if k>0 then
     if(ia+k+1==a.size)=true then pure (ForInStep.done (some (out++a.extract ia (ia+k)++b.extract ib++a.extract (ia+k)),out++a.extract ia (ia+k),ia+k,ib,mg,k,bc))
     else if(ia+k==a.size)=true then pure (ForInStep.done (some (out++a.extract ia (ia+k)++a.extract (ia+k)++b.extract ib),out++a.extract ia (ia+k),ia+k,ib,mg,k,bc))
     else zp3 a b (out++a.extract ia (ia+k)) (ia+k) ib mg k bc
   else zp3 a b out ia ib mg k bc
 |_=>pure (ForInStep.done (some (out++a.extract ia++b.extract ib),out,ia,ib,mg,ac,bc))
def Lp(blt:Keyed->Keyed->Bool)(a b:Array Keyed)(N:Nat)(st:SortSt)(r:ForInStep Gs)(st2:SortSt):Prop:=∃g2,st2=zbo st g2/\((∃out2 ia2 ib2 mg2 ac2 bc2,(r=.done (none,out2,ia2,ib2,mg2,ac2,bc2)\/r=.yield (none,out2,ia2,ib2,mg2,ac2,bc2))/\At blt a b out2 ia2 ib2/\N<=out2.size)\/∃v q,r=.done (some v,q)/\yk blt a b v)
variable {out:Array Keyed}{ia ib mg k k1 ac bc N:Nat}
theorem zgj(C:Cmp prog w A E s kd U blt)(T:Two blt U a b){g:Nat}(m:Mg blt (a.toList++b.toList) out.toList (a.toList.drop ia) (b.toList.drop ib))(ha:ia+1<a.size)(hb:ib<b.size)(hx:le blt (ix a ia) (ix b ib))(hN:N<=out.size):wpS (model prog w) A E s (zp2 a b out ia ib mg k k1) (Lp blt a b N st) (zbo st g):=by
 unfold zp2;refine z41 (qf (by omega) ?_);have m2:=zse C T m (by omega) fun _=>hx;by_cases f1:ia+1+1=a.size
 · rw[z5g (by simpa using f1)];exact z5b ⟨g,rfl,.inr ⟨_,_,rfl,zcz T m2 f1⟩⟩
 · rw[z5n (by simpa using f1)];have at2:At blt a b (out.push (ix a ia)) (ia+1) ib:=⟨by omega,hb,m2⟩
   split
   · exact z5b ⟨g,rfl,.inl ⟨_,_,_,_,_,_,.inl rfl,at2,by rw[z52];omega⟩⟩
   · exact z5b ⟨g,rfl,.inl ⟨_,_,_,_,_,_,.inr rfl,at2,by rw[z52];omega⟩⟩
theorem zgk(C:Cmp prog w A E s kd U blt)(T:Two blt U a b)(hk:kindOf st=kd){g:Nat}(m:Mg blt (a.toList++b.toList) out.toList (a.toList.drop ia) (b.toList.drop ib))(ha:ia+1<a.size)(hb:ib<b.size)(hy:blt (ix b ib) (ix a ia)=true)(hN:N<=out.size):wpS (model prog w) A E s (zp3 a b out ia ib mg k bc) (Lp blt a b N st) (zbo st g):=by
 unfold zp3;refine z41 (qf hb ?_);have m2:=zm7 C T m hb fun _=>hy;by_cases f1:ib+1=b.size
 · rw[z5g (by simpa using f1)];exact z5b ⟨g,rfl,.inr ⟨_,_,rfl,zby m2 (.inl f1)⟩⟩
 · rw[z5n (by simpa using f1)];refine z41 (qf (by omega) ?_);refine z41 (zi2 (st:=zbo st g) (x:=ix a ia) (i:=ib+1) (n:=b.size-(ib+1)) (hint:=0) C hk (T.ua _ (kt (by omega))) T.ub T.sb (by omega) (by omega) fun k1 q1 q2 q3=>?_);dsimp only;by_cases f2:k1>0
   · rw[z5g f2];have m3:=zwk C T m2 (k:=k1) (by omega) q2;by_cases f3:ib+1+k1=b.size
     · rw[z5g (by simpa using f3)];exact z5b ⟨g,rfl,.inr ⟨_,_,rfl,zby m3 (.inl f3)⟩⟩
     · rw[z5n (by simpa using f3)];exact zgj C T m3 ha (by omega) (q3 k1 (z4v _) (by omega)) (by rw[z88,z52];omega)
   · rw[z5n f2];have:k1=0:=by omega
     subst this;exact zgj C T m2 ha (by omega) (q3 0 (z4v _) (by omega)) (by rw[z52];omega)
theorem zi1(C:Cmp prog w A E s kd U blt)(T:Two blt U a b)(hk:kindOf st=kd){g:Nat}(m:At blt a b out ia ib)(hN:N<=out.size):wpS (model prog w) A E s (z0p a b out ia ib mg ac bc) (Lp blt a b N st) (zbo st g):=by
 have p1:=m.ha;have p2:=m.hb;unfold z0p;refine z41 (zfa ?_);refine z41 (qf p2 ?_);refine z41 (zi3 (st:=zbo st mg) (i:=ia) (n:=a.size-ia) (hint:=0) C hk (T.ub _ (kt p2)) T.ua T.sa (by omega) (by omega) fun k q1 q2 q3=>?_);dsimp only;by_cases f2:k>0
 · rw[z5g f2];have m3:=zwl C T m.mg (k:=k) (by omega) q2;by_cases f3:ia+k+1=a.size
   · rw[z5g (by simpa using f3)];exact z5b ⟨mg,rfl,.inr ⟨_,_,rfl,zcz T m3 f3⟩⟩
   · rw[z5n (by simpa using f3)];by_cases f4:ia+k=a.size
     · rw[z5g (by simpa using f4)];exact z5b ⟨mg,rfl,.inr ⟨_,_,rfl,zby m3 (.inr f4)⟩⟩
     · rw[z5n (by simpa using f4)];exact zgk (st:=st) C T hk m3 (by omega) p2 (q3 k (z4v _) (by omega)) (by rw[z88];omega)
 · rw[z5n f2];have:k=0:=by omega
   subst this;exact zgk (st:=st) C T hk m.mg p1 p2 (q3 0 (z4v _) (by omega)) hN
theorem zhr(C:Cmp prog w A E s kd U blt)(T:Two blt U a b)(hk:kindOf st=kd)(a0:0<a.size)(b0:0<b.size)(hf:blt (ix b 0) (ix a 0)=true){Q:Array Keyed->SortSt->Prop}
   (h:∀r g,yk blt a b r->Q r (zbo st g)):wpS (model prog w) A E s (zfm a b) Q st:=by
 rw[zia];dsimp only;refine z41 (za3 ?_);refine z41 (qf b0 ?_);have m0:Mg blt (a.toList++b.toList) (#[]:Array Keyed).toList (a.toList.drop 0) (b.toList.drop 0):=⟨zff T.sa,zff T.sb,z77 _⟩
 have m1:=zm7 C T m0 b0 fun _=>hf;have eg:st=zbo st (gallopOf st):=rfl;have h':∀r,yk blt a b r->Q r st:=fun r hr=>by have:=h r (gallopOf st) hr;rw[<-eg]at this;exact this
 by_cases e1:1=b.size
 · rw[z5g (by simpa using e1)];exact z5b (h' _ (zby m1 (.inl e1)))
 · rw[z5n (by simpa using e1)];by_cases e2:0+1=a.size
   · rw[z5g (by simpa using e2)];exact z5b (h' _ (zcz T m1 e2))
   · rw[z5n (by simpa using e2)];refine z41 (z9n ?_);refine z41 (z6x (z6k
       (I:=fun x c st'=>∃g out ia ib mg,st'=zbo st g/\c=(none,out,ia,ib,mg)/\At blt a b out ia ib/\x+1<=out.size)
       (Q:=fun c st'=>∃g r,st'=zbo st g/\c.1=some r/\yk blt a b r) ?_ ?_ ⟨gallopOf st,#[ix b 0],0,1,gallopOf st,rfl,rfl,⟨by omega,by omega,m1⟩,z4v _⟩) ?_)
     · rintro x c st' _ hx ⟨g,out,ia,ib,mg,rfl,rfl,at0,sz⟩;dsimp only;refine z41 (z6x (z6k
         (I:=fun x1 c1 st1=>∃out1 ia1 ib1 ac bc,st1=zbo st g/\c1=(none,out1,ia1,ib1,ac,bc)/\At blt a b out1 ia1 ib1/\out.size+x1<=out1.size)
         (Q:=fun c1 st1=>st1=zbo st g/\((∃out1 ia1 ib1 ac bc,c1=(none,out1,ia1,ib1,ac,bc)/\At blt a b out1 ia1 ib1/\out.size+1<=out1.size)\/∃r q,c1=(some r,q)/\yk blt a b r)) ?_ ?_ ⟨out,ia,ib,0,0,rfl,rfl,at0,z4v _⟩) ?_)
       · rintro x1 c1 st1 _ hx1 ⟨out1,ia1,ib1,ac,bc,rfl,rfl,at1,sz1⟩;have p1:=at1.ha;have p2:=at1.hb;dsimp only;refine z41 (qf p2 ?_);refine z41 (qf (by omega) ?_);refine z41 (C.lt _ _ (T.ub _ (kt p2)) (T.ua _ (kt (by omega))) _ _ hk ?_);dsimp only;cases hw:blt (ix b ib1) (ix a ia1)
         · simp only[z47,z6b];refine z41 (qf (by omega) ?_);have m2:=zse C T at1.mg (by omega) fun _=>hw;by_cases f1:ia1+1+1=a.size
           · rw[z5g (by simpa using f1)];exact z5b ⟨rfl,.inr ⟨_,_,rfl,zcz T m2 f1⟩⟩
           · rw[z5n (by simpa using f1)];have at2:At blt a b (out1.push (ix a ia1)) (ia1+1) ib1:=⟨by omega,p2,m2⟩
             split
             · exact z5b ⟨rfl,.inl ⟨_,_,_,_,_,rfl,at2,by rw[z52];omega⟩⟩
             · exact z5b ⟨_,_,_,_,_,rfl,rfl,at2,by rw[z52];omega⟩
         · simp only[z6s];refine z41 (qf p2 ?_);have m2:=zm7 C T at1.mg p2 fun _=>hw;by_cases f1:ib1+1=b.size
           · rw[z5g (by simpa using f1)];exact z5b ⟨rfl,.inr ⟨_,_,rfl,zby m2 (.inl f1)⟩⟩
           · rw[z5n (by simpa using f1)];have at2:At blt a b (out1.push (ix b ib1)) ia1 (ib1+1):=⟨p1,by omega,m2⟩
             split
             · exact z5b ⟨rfl,.inl ⟨_,_,_,_,_,rfl,at2,by rw[z52];omega⟩⟩
             · exact z5b ⟨_,_,_,_,_,rfl,rfl,at2,by rw[z52];omega⟩
       · rintro c1 st1 ⟨out1,ia1,ib1,ac,bc,rfl,rfl,at1,sz1⟩;exact⟨rfl,.inl ⟨_,_,_,_,_,rfl,at1,by omega⟩⟩
       · rintro c1 st1 ⟨rfl,⟨out1,ia1,ib1,ac,bc,rfl,at1,sz1⟩ | ⟨r,q,rfl,gr⟩⟩
         · dsimp only;refine z41 (za3 ?_);refine z41 (z6x (z6k
             (I:=fun x2 c2 st2=>∃g2 out2 ia2 ib2 mg2 ac2 bc2,st2=zbo st g2/\c2=(none,out2,ia2,ib2,mg2,ac2,bc2)/\At blt a b out2 ia2 ib2/\out.size+1<=out2.size)
             (Q:=fun c2 st2=>∃g2,st2=zbo st g2/\((∃out2 ia2 ib2 mg2 ac2 bc2,c2=(none,out2,ia2,ib2,mg2,ac2,bc2)/\At blt a b out2 ia2 ib2/\out.size+1<=out2.size)\/∃r q,c2=(some r,q)/\yk blt a b r)) ?_ ?_ ⟨g,out1,ia1,ib1,mg+1,ac,bc,rfl,rfl,at1,sz1⟩) ?_)
           · rintro x2 c2 st2 _ hx2 ⟨g2,out2,ia2,ib2,mg2,ac2,bc2,rfl,rfl,at2,sz2⟩;dsimp only;show wpS _ _ _ _ (if mg2>1 then z0p a b out2 ia2 ib2 (mg2-1) ac2 bc2 else z0p a b out2 ia2 ib2 mg2 ac2 bc2) _ _;by_cases f0:mg2>1
             · rw[z5g f0];refine z6x (zi1 (st:=st) (N:=out.size+1) C T hk at2 sz2) fun r st2 hr=>?_;rcases hr with⟨g3,rfl,⟨o,i1,i2,mm,c1,c2,e | e,q1,q2⟩ | ⟨v,q,rfl,gv⟩⟩
               · subst e;exact⟨g3,rfl,.inl ⟨o,i1,i2,mm,c1,c2,rfl,q1,q2⟩⟩
               · subst e;exact⟨g3,o,i1,i2,mm,c1,c2,rfl,rfl,q1,q2⟩
               · exact⟨g3,rfl,.inr ⟨v,q,rfl,gv⟩⟩
             · rw[z5n f0];refine z6x (zi1 (st:=st) (N:=out.size+1) C T hk at2 sz2) fun r st2 hr=>?_;rcases hr with⟨g3,rfl,⟨o,i1,i2,mm,c1,c2,e | e,q1,q2⟩ | ⟨v,q,rfl,gv⟩⟩
               · subst e;exact⟨g3,rfl,.inl ⟨o,i1,i2,mm,c1,c2,rfl,q1,q2⟩⟩
               · subst e;exact⟨g3,o,i1,i2,mm,c1,c2,rfl,rfl,q1,q2⟩
               · exact⟨g3,rfl,.inr ⟨v,q,rfl,gv⟩⟩
           · rintro c2 st2 ⟨g2,out2,ia2,ib2,mg2,ac2,bc2,rfl,rfl,at2,sz2⟩;exact⟨g2,rfl,.inl ⟨_,_,_,_,_,_,rfl,at2,sz2⟩⟩
           · rintro c2 st2 ⟨g2,rfl,⟨out2,ia2,ib2,mg2,ac2,bc2,rfl,at2,sz2⟩ | ⟨r,q,rfl,gr⟩⟩
             · dsimp only;refine z41 (zfa ?_);exact z5b ⟨mg2+1,out2,ia2,ib2,mg2+1,rfl,rfl,at2,by omega⟩
             · dsimp only;exact z5b ⟨g2,r,rfl,rfl,gr⟩
         · dsimp only;exact z5b ⟨g,r,rfl,rfl,gr⟩
     · rintro c st' ⟨g,out,ia,ib,mg,rfl,rfl,at0,sz⟩;have:=at0.le;omega
     · rintro c st' ⟨g,r,rfl,e,gr⟩;rw[e];exact z5b (h r g gr)
end
theorem zib(a b:Array Keyed):zfn a b=(do
 rule "list.sort.merge-hi"
 let total:=a.size+b.size
 let done (out:Array Keyed) (na nb:Nat):=a.extract 0 na++b.extract 0 nb++out.reverse
 let firstOfB (out:Array Keyed) (na nb:Nat):=b.extract 0 nb++a.extract 0 na++out.reverse
 let mut na:=a.size-1
 let mut nb:=b.size
 let mut out:Array Keyed:=#[<-elem' a na]
 if na==0 then return done out na nb
 if nb==1 then return firstOfB out na nb
 let mut minGallop:=gallopOf (<-get)
 for _ in [0:total] do
   let mut acount:=0
   let mut bcount:=0
   for _ in [0:total] do
     let some aWins <-lt' (<-elem' b (nb-1)) (<-elem' a (na-1)) | return done out na nb
     if aWins then
       na:=na-1;out:=out.push (<-elem' a na);acount:=acount+1;bcount:=0
       if na==0 then return done out na nb
       if acount ≥ minGallop then break
     else
       nb:=nb-1;out:=out.push (<-elem' b nb);bcount:=bcount+1;acount:=0
       if nb==1 then return firstOfB out na nb
       if bcount ≥ minGallop then break
   rule "list.sort.gallop"
   minGallop:=minGallop+1
   for _ in [0:total] do
     if minGallop>1 then minGallop:=minGallop-1
     smg minGallop
     let some at_ <-j0 false (<-elem' b (nb-1)) a 0 na (na-1) | return done out na nb
     let k:=na-at_
     acount:=k
     if k>0 then
       out:=out++(a.extract at_ na).reverse;na:=at_
       if na==0 then return done out na nb
     nb:=nb-1;out:=out.push (<-elem' b nb)
     if nb==1 then return firstOfB out na nb
     let some at_ <-j0 true (<-elem' a (na-1)) b 0 nb (nb-1) | return done out na nb
     let k:=nb-at_
     bcount:=k
     if k>0 then
       out:=out++(b.extract at_ nb).reverse;nb:=at_
       if nb==1 then return firstOfB out na nb
       if nb==0 then return done out na nb
     na:=na-1;out:=out.push (<-elem' a na)
     if na==0 then return done out na nb
     if acount<7&&bcount<7 then break
   minGallop:=minGallop+1
   smg minGallop
 unsupported "internal:list.sort.merge-bound"):=rfl
section
variable {blt:Keyed->Keyed->Bool}{T O A B C:List Keyed}
structure Mh (blt:Keyed->Keyed->Bool) (T O A B:List Keyed):Prop where
 pa:(A++O).Pairwise (le blt)
 pb:(B++O).Pairwise (le blt)
 pm:(A++(B++O)).Perm T
theorem Mh.chunkA(h:Mh blt T O (A++C) B)(hc:∀x∈C,∀z∈B,le blt z x):Mh blt T (C++O) A B:=by
 have h1:=z4y.mp h.pa;have h2:=z4y.mp h.pb;have h3:=z4y.mp h1.1;refine⟨by rw[<-z48];exact h.pa,?_,?_⟩
 · refine z4y.mpr ⟨h2.1,z4y.mpr ⟨h3.2.1,h1.2.1,fun x hx y hy=>h1.2.2 x (z44 _ hx) y hy⟩,fun z hz x hx=>?_⟩;rcases z5k.mp hx with hx | hx
   · exact hc x hx z hz
   · exact h2.2.2 z hz x hx
 · refine List.Perm.trans ?_ h.pm;rw[z48];refine z7s A ?_;rw[<-z48,<-z48];exact z7o O z8c
theorem Mh.chunkB(h:Mh blt T O A (B++C))(hc:∀x∈C,∀z∈A,le blt z x):Mh blt T (C++O) A B:=by
 have h1:=z4y.mp h.pb;have h2:=z4y.mp h.pa;have h3:=z4y.mp h1.1;refine⟨?_,by rw[<-z48];exact h.pb,?_⟩
 · refine z4y.mpr ⟨h2.1,z4y.mpr ⟨h3.2.1,h1.2.1,fun x hx y hy=>h1.2.2 x (z44 _ hx) y hy⟩,fun z hz x hx=>?_⟩;rcases z5k.mp hx with hx | hx
   · exact hc x hx z hz
   · exact h2.2.2 z hz x hx
 · have:=h.pm;rw[z48]at this;exact this
theorem Mh.finA(h:Mh blt T O A []):zvy blt T (A++O):=⟨h.pa,h.pm⟩
theorem Mh.finB(h:Mh blt T O [] B):zvy blt T (B++O):=⟨h.pb,h.pm⟩
theorem Mh.firstB{x:Keyed}(h:Mh blt T O A [x])(hx:∀z∈A,le blt x z):zvy blt T ([x]++(A++O)):=by
 have h1:=z4y.mp h.pb;refine⟨z4y.mpr ⟨z7g _ _,h.pa,fun y hy z hz=>?_⟩,List.Perm.trans ?_ h.pm⟩
 · rw[z43.mp hy];rcases z5k.mp hz with hz | hz
   · exact hx z hz
   · exact h1.2.2 x (z43.mpr rfl) z hz
 · rw[<-z48,<-z48];exact z7o O z8c
theorem Mh.len(h:Mh blt T O A B):O.length+A.length+B.length=T.length:=by have:=h.pm.length_eq;simp only[z4t]at this;omega
variable {a b:Array Keyed}{i j k:Nat}
theorem zhy(h:i<a.size):a.toList.take (i+1)=a.toList.take i++[ix a i]:=by
 have e:a.toList[i]? = some (ix a i):=by rw[z57];exact zjz h
 rw[List.take_add_one,e];rfl
theorem z0x:(a.extract 0 i).toList=a.toList.take i:=by rw[z7c,List.extract_eq_drop_take,Nat.sub_zero,z78]
theorem zmk(h:i<=j)(hj:j<=a.size):a.toList.take j=a.toList.take i++(a.extract i j).toList:=by
 rw[z7c,List.extract_eq_drop_take];have:a.toList.take j=a.toList.take (i+(j-i)):=by rw[show i+(j-i)=j by omega]
 rw[this,List.take_add]
theorem zcx{x:Keyed}(h:x∈a.toList.take i):∃j,j<i/\j<a.size/\x=ix a j:=by obtain⟨j,hj,e⟩:=z5p h;rw[z49,Array.length_toList]at hj;refine⟨j,by omega,by omega,?_⟩;rw[z7i]at e;rw[<-e];unfold ix;rw[z5x (by omega)];simp
end
section
variable {prog:Program}{w:World}{A:Around}{E:zVP}{s:Shared}{blt:Keyed->Keyed->Bool}{U:Keyed->Prop}{kd:SortKind}{st:SortSt}{a b:Array Keyed}
structure Ah (blt:Keyed->Keyed->Bool) (a b out:Array Keyed) (na nb:Nat):Prop where
 a0:0<na
 ha:na<=a.size
 b0:1<nb
 hb:nb<=b.size
 mg:Mh blt (a.toList++b.toList) out.toList.reverse (a.toList.take na) (b.toList.take nb)
structure TwoH (blt:Keyed->Keyed->Bool) (U:Keyed->Prop) (a b:Array Keyed):Prop where
 sa:zpg blt a
 sb:zpg blt b
 ua:∀x∈a.toList,U x
 ub:∀x∈b.toList,U x
 fb:∀z∈a.toList,le blt (ix b 0) z
variable {out:Array Keyed}{na nb k:Nat}
theorem Ah.le(h:Ah blt a b out na nb):out.size+3<=a.size+b.size:=by have:=h.mg.len;simp only[z49,z4t,z6g,Array.length_toList]at this;have:=h.a0;have:=h.ha;have:=h.b0;have:=h.hb;omega
theorem zza(m:Mh blt (a.toList++b.toList) out.toList.reverse (a.toList.take na) (b.toList.take nb))(hb:nb=0\/na=0):yk blt a b (a.extract 0 na++b.extract 0 nb++out.reverse):=by
 unfold yk;rw[z5z,z5z,z0x,z0x,z8k];rcases hb with rfl | rfl
 · rw[List.take_zero]at m ⊢;rw[z5q];exact m.finA
 · rw[List.take_zero]at m ⊢;rw[List.nil_append];exact m.finB
theorem z0w(T:TwoH blt U a b)(b0:0<b.size)(m:Mh blt (a.toList++b.toList) out.toList.reverse (a.toList.take na) (b.toList.take nb))(hb:nb=1):yk blt a b (b.extract 0 nb++a.extract 0 na++out.reverse):=by
 subst hb;unfold yk;rw[z5z,z5z,z0x,z0x,z8k,z48];have e:b.toList.take 1=[ix b 0]:=by have:=zhy b0;rw[List.take_zero]at this;exact this
 rw[e]at m ⊢;exact m.firstB fun z hz=>T.fb z (z5r hz)
theorem zh6(C:Cmp prog w A E s kd U blt)(T:TwoH blt U a b)(m:Mh blt (a.toList++b.toList) out.toList.reverse (a.toList.take (na+1)) (b.toList.take nb))(ha:na<a.size)(hb:nb<=b.size)(h:0<nb->blt (ix b (nb-1)) (ix a na)=true):Mh blt (a.toList++b.toList) (out.push (ix a na)).toList.reverse (a.toList.take na) (b.toList.take nb):=by rw[zhy ha]at m;rw[z8j,z8m];refine Mh.chunkA (C:=[ix a na]) m fun x hx z hz=>?_;rw[z43.mp hx];obtain⟨j,j1,j2,rfl⟩:=zcx hz;exact C.tr _ _ _ (T.sb j (nb-1) (by omega) (by omega)) (C.asy _ _ (h (by omega)))
theorem zm8(C:Cmp prog w A E s kd U blt)(T:TwoH blt U a b)(m:Mh blt (a.toList++b.toList) out.toList.reverse (a.toList.take na) (b.toList.take (nb+1)))(hb:nb<b.size)(ha:na<=a.size)(h:0<na->le blt (ix a (na-1)) (ix b nb)):Mh blt (a.toList++b.toList) (out.push (ix b nb)).toList.reverse (a.toList.take na) (b.toList.take nb):=by rw[zhy hb]at m;rw[z8j,z8m];refine Mh.chunkB (C:=[ix b nb]) m fun x hx z hz=>?_;rw[z43.mp hx];obtain⟨j,j1,j2,rfl⟩:=zcx hz;exact C.tr _ _ _ (T.sa j (na-1) (by omega) (by omega)) (h (by omega))
theorem ztn(C:Cmp prog w A E s kd U blt)(T:TwoH blt U a b)(m:Mh blt (a.toList++b.toList) out.toList.reverse (a.toList.take na) (b.toList.take nb))(hk:k<=na)(ha:na<=a.size)(hb:nb<=b.size)(h:∀j,k<=j->j<na->blt (ix b (nb-1)) (ix a j)=true):Mh blt (a.toList++b.toList) (out++(a.extract k na).reverse).toList.reverse (a.toList.take k) (b.toList.take nb):=by
 rw[zmk hk ha]at m;rw[z5z,z8m,z8k,z7v];refine Mh.chunkA m fun x hx z hz=>?_;have hx':x∈(a.extract k (k+(na-k))).toList:=by rw[show k+(na-k)=na by omega];exact hx
 obtain⟨j,j1,j2,rfl⟩:=zjv hx';obtain⟨l,l1,l2,rfl⟩:=zcx hz;exact C.tr _ _ _ (T.sb l (nb-1) (by omega) (by omega)) (C.asy _ _ (h (k+j) (by omega) (by omega)))
theorem ztm(C:Cmp prog w A E s kd U blt)(T:TwoH blt U a b)(m:Mh blt (a.toList++b.toList) out.toList.reverse (a.toList.take na) (b.toList.take nb))(hk:k<=nb)(ha:na<=a.size)(hb:nb<=b.size)(h:∀j,k<=j->j<nb->le blt (ix a (na-1)) (ix b j)):Mh blt (a.toList++b.toList) (out++(b.extract k nb).reverse).toList.reverse (a.toList.take na) (b.toList.take k):=by
 rw[zmk hk hb]at m;rw[z5z,z8m,z8k,z7v];refine Mh.chunkB m fun x hx z hz=>?_;have hx':x∈(b.extract k (k+(nb-k))).toList:=by rw[show k+(nb-k)=nb by omega];exact hx
 obtain⟨j,j1,j2,rfl⟩:=zjv hx';obtain⟨l,l1,l2,rfl⟩:=zcx hz;exact C.tr _ _ _ (T.sa l (na-1) (by omega) (by omega)) (h (k+j) (by omega) (by omega))
end
section
variable {prog:Program}{w:World}{A:Around}{E:zVP}{s:Shared}{blt:Keyed->Keyed->Bool}{U:Keyed->Prop}{kd:SortKind}{st:SortSt}{a b:Array Keyed}
abbrev Hs:=Option (Array Keyed)×Nat×Nat×Array Keyed×Nat×Nat×Nat
def zjf(a b out:Array Keyed)(na nb mg k k1:Nat):StateT SortSt Sem (ForInStep Hs):=do
 let x <-elem' a (na-1)
 if(na-1==0)=true then pure (ForInStep.done (some (a.extract 0 (na-1)++b.extract 0 nb++(out.push x).reverse),na-1,nb,out.push x,mg,k,k1))
 else if(decide (k<7)&&decide (k1<7))=true then pure (ForInStep.done (none,na-1,nb,out.push x,mg,k,k1))else pure (ForInStep.yield (none,na-1,nb,out.push x,mg,k,k1))
def zjg(a b out:Array Keyed)(na nb mg k bc:Nat):StateT SortSt Sem (ForInStep Hs):=do
 let y <-elem' b (nb-1)
 if(nb-1==1)=true then pure (ForInStep.done (some (b.extract 0 (nb-1)++a.extract 0 na++(out.push y).reverse),na,nb-1,out.push y,mg,k,bc))
 else do
   let x <-elem' a (na-1)
   let r <-j0 true x b 0 (nb-1) (nb-1-1)
   match r with
   | some t=>
     if nb-1-t>0 then
       if(t==1)=true then pure (ForInStep.done (some (b.extract 0 t++a.extract 0 na++(out.push y++(b.extract t (nb-1)).reverse).reverse),na,t,out.push y++(b.extract t (nb-1)).reverse,mg,k,nb-1-t))
       else if(t==0)=true then pure (ForInStep.done (some (a.extract 0 na++b.extract 0 t++(out.push y++(b.extract t (nb-1)).reverse).reverse),na,t,out.push y++(b.extract t (nb-1)).reverse,mg,k,nb-1-t))
       else zjf a b (out.push y++(b.extract t (nb-1)).reverse) na t mg k (nb-1-t)
     else zjf a b (out.push y) na (nb-1) mg k (nb-1-t)
   |_=>pure (ForInStep.done (some (a.extract 0 na++b.extract 0 (nb-1)++(out.push y).reverse),na,nb-1,out.push y,mg,k,bc))
def zqq(a b out:Array Keyed)(na nb mg ac bc:Nat):StateT SortSt Sem (ForInStep Hs):=do
 smg mg
 let y <-elem' b (nb-1)
 let r <-j0 false y a 0 na (na-1)
 match r with
 | some t=>
   if na-t>0 then
     if(t==0)=true then pure (ForInStep.done (some (a.extract 0 t++b.extract 0 nb++(out++(a.extract t na).reverse).reverse),t,nb,out++(a.extract t na).reverse,mg,na-t,bc))
     else zjg a b (out++(a.extract t na).reverse) t nb mg (na-t) bc
   else zjg a b out na nb mg (na-t) bc
 |_=>pure (ForInStep.done (some (a.extract 0 na++b.extract 0 nb++out.reverse),na,nb,out,mg,ac,bc))
def LpH(blt:Keyed->Keyed->Bool)(a b:Array Keyed)(N:Nat)(st:SortSt)(r:ForInStep Hs)(st2:SortSt):Prop:=∃g2,st2=zbo st g2/\((∃out2 na2 nb2 mg2 ac2 bc2,(r=.done (none,na2,nb2,out2,mg2,ac2,bc2)\/r=.yield (none,na2,nb2,out2,mg2,ac2,bc2))/\Ah blt a b out2 na2 nb2/\N<=out2.size)\/∃v q,r=.done (some v,q)/\yk blt a b v)
variable {out:Array Keyed}{na nb mg k k1 ac bc N:Nat}
theorem zen(C:Cmp prog w A E s kd U blt)(T:TwoH blt U a b){g:Nat}(m:Mh blt (a.toList++b.toList) out.toList.reverse (a.toList.take na) (b.toList.take nb))(a0:0<na)(ha:na<=a.size)(b0:1<nb)(hb:nb<=b.size)(hx:blt (ix b (nb-1)) (ix a (na-1))=true)(hN:N<=out.size):wpS (model prog w) A E s (zjf a b out na nb mg k k1) (LpH blt a b N st) (zbo st g):=by
 obtain⟨n1,rfl⟩:∃n1,na=n1+1:=⟨na-1,by omega⟩
 unfold zjf;refine z41 (qf (by omega) ?_);have m2:=zh6 C T m (by omega) hb fun _=>hx;simp only[z79]at *;by_cases f1:n1=0
 · rw[z5g (by simpa using f1)];exact z5b ⟨g,rfl,.inr ⟨_,_,rfl,zza m2 (.inr f1)⟩⟩
 · rw[z5n (by simpa using f1)];have at2:Ah blt a b (out.push (ix a n1)) n1 nb:=⟨by omega,by omega,b0,hb,m2⟩
   split
   · exact z5b ⟨g,rfl,.inl ⟨_,_,_,_,_,_,.inl rfl,at2,by rw[z52];omega⟩⟩
   · exact z5b ⟨g,rfl,.inl ⟨_,_,_,_,_,_,.inr rfl,at2,by rw[z52];omega⟩⟩
theorem zeo(C:Cmp prog w A E s kd U blt)(T:TwoH blt U a b)(hk:kindOf st=kd){g:Nat}(m:Mh blt (a.toList++b.toList) out.toList.reverse (a.toList.take na) (b.toList.take nb))(a0:0<na)(ha:na<=a.size)(b0:1<nb)(hb:nb<=b.size)(hy:le blt (ix a (na-1)) (ix b (nb-1)))(hN:N<=out.size):wpS (model prog w) A E s (zjg a b out na nb mg k bc) (LpH blt a b N st) (zbo st g):=by
 obtain⟨n1,rfl⟩:∃n1,nb=n1+1:=⟨nb-1,by omega⟩
 unfold zjg;refine z41 (qf (by omega) ?_);have m2:=zm8 C T m (by omega) ha fun _=>hy;simp only[z79]at *;by_cases f1:n1=1
 · rw[z5g (by simpa using f1)];exact z5b ⟨g,rfl,.inr ⟨_,_,rfl,z0w T (by omega) m2 f1⟩⟩
 · rw[z5n (by simpa using f1)];refine z41 (qf (by omega) ?_);refine z41 (zi2 (st:=zbo st g) (x:=ix a (na-1)) (i:=0) (n:=n1) (hint:=n1-1) C hk (T.ua _ (kt (by omega))) T.ub T.sb (by omega) (by omega) fun t q1 q2 q3=>?_);simp only[z9c]at q2 q3;dsimp only;by_cases f2:n1-t>0
   · rw[z5g f2];have m3:=ztm C T m2 (k:=t) q1 ha (by omega) q3;by_cases f3:t=1
     · rw[z5g (by simpa using f3)];exact z5b ⟨g,rfl,.inr ⟨_,_,rfl,z0w T (by omega) m3 f3⟩⟩
     · rw[z5n (by simpa using f3)];by_cases f4:t=0
       · rw[z5g (by simpa using f4)];exact z5b ⟨g,rfl,.inr ⟨_,_,rfl,zza m3 (.inl f4)⟩⟩
       · rw[z5n (by simpa using f4)];exact zen C T m3 a0 ha (by omega) (by omega) (q2 (t-1) (by omega)) (by rw[z88,z52];omega)
   · rw[z5n f2];exact zen C T m2 a0 ha (by omega) (by omega) (q2 (n1-1) (by omega)) (by rw[z52];omega)
theorem zgl(C:Cmp prog w A E s kd U blt)(T:TwoH blt U a b)(hk:kindOf st=kd){g:Nat}(m:Ah blt a b out na nb)(hN:N<=out.size):wpS (model prog w) A E s (zqq a b out na nb mg ac bc) (LpH blt a b N st) (zbo st g):=by
 have p1:=m.ha;have p2:=m.hb;have p3:=m.a0;have p4:=m.b0;unfold zqq;refine z41 (zfa ?_);refine z41 (qf (by omega) ?_);refine z41 (zi3 (st:=zbo st mg) (y:=ix b (nb-1)) (i:=0) (n:=na) (hint:=na-1) C hk (T.ub _ (kt (by omega))) T.ua T.sa (by omega) (by omega) fun t q1 q2 q3=>?_);simp only[z9c]at q2 q3;dsimp only;by_cases f2:na-t>0
 · rw[z5g f2];have m3:=ztn C T m.mg (k:=t) q1 p1 p2 q3;by_cases f3:t=0
   · rw[z5g (by simpa using f3)];exact z5b ⟨mg,rfl,.inr ⟨_,_,rfl,zza m3 (.inr f3)⟩⟩
   · rw[z5n (by simpa using f3)];exact zeo (st:=st) C T hk m3 (by omega) (by omega) p4 p2 (q2 (t-1) (by omega)) (by rw[z88];omega)
 · rw[z5n f2];exact zeo (st:=st) C T hk m.mg p3 p1 p4 p2 (q2 (na-1) (by omega)) hN
theorem zhs(C:Cmp prog w A E s kd U blt)(T:TwoH blt U a b)(hk:kindOf st=kd)(a0:0<a.size)(b0:0<b.size)(hl:blt (ix b (b.size-1)) (ix a (a.size-1))=true){Q:Array Keyed->SortSt->Prop}
   (h:∀r g,yk blt a b r->Q r (zbo st g)):wpS (model prog w) A E s (zfn a b) Q st:=by
 rw[zib];dsimp only;refine z41 (za3 ?_);refine z41 (qf (by omega) ?_);have m0:Mh blt (a.toList++b.toList) (#[]:Array Keyed).toList.reverse (a.toList.take (a.size-1+1)) (b.toList.take b.size):=by rw[show a.size-1+1=a.size by omega,z59 (by simp),z59 (by simp)];exact⟨by simpa using zff T.sa,by simpa using zff T.sb,by simp⟩
 have m1:=zh6 C T m0 (by omega) (z4v _) fun _=>hl;have eg:st=zbo st (gallopOf st):=rfl;have h':∀r,yk blt a b r->Q r st:=fun r hr=>by have:=h r (gallopOf st) hr;rw[<-eg]at this;exact this
 by_cases e1:a.size-1=0
 · rw[z5g (by simpa using e1)];exact z5b (h' _ (zza m1 (.inr e1)))
 · rw[z5n (by simpa using e1)];by_cases e2:b.size=1
   · rw[z5g (by simpa using e2)];exact z5b (h' _ (z0w T b0 m1 e2))
   · rw[z5n (by simpa using e2)];refine z41 (z9n ?_);refine z41 (z6x (z6k
       (I:=fun x c st'=>∃g out na nb mg,st'=zbo st g/\c=(none,na,nb,out,mg)/\Ah blt a b out na nb/\x+1<=out.size)
       (Q:=fun c st'=>∃g r,st'=zbo st g/\c.1=some r/\yk blt a b r) ?_ ?_ ⟨gallopOf st,#[ix a (a.size-1)],a.size-1,b.size,gallopOf st,rfl,rfl,⟨by omega,by omega,by omega,z4v _,m1⟩,z4v _⟩) ?_)
     · rintro x c st' _ hx ⟨g,out,na,nb,mg,rfl,rfl,at0,sz⟩;dsimp only;refine z41 (z6x (z6k
         (I:=fun x1 c1 st1=>∃out1 na1 nb1 ac bc,st1=zbo st g/\c1=(none,na1,nb1,out1,ac,bc)/\Ah blt a b out1 na1 nb1/\out.size+x1<=out1.size)
         (Q:=fun c1 st1=>st1=zbo st g/\((∃out1 na1 nb1 ac bc,c1=(none,na1,nb1,out1,ac,bc)/\Ah blt a b out1 na1 nb1/\out.size+1<=out1.size)\/∃r q,c1=(some r,q)/\yk blt a b r)) ?_ ?_ ⟨out,na,nb,0,0,rfl,rfl,at0,z4v _⟩) ?_)
       · rintro x1 c1 st1 _ hx1 ⟨out1,na1,nb1,ac,bc,rfl,rfl,at1,sz1⟩;have p1:=at1.ha;have p2:=at1.hb;have p3:=at1.a0;have p4:=at1.b0;have mm:=at1.mg;obtain⟨n1,rfl⟩:∃n1,na1=n1+1:=⟨na1-1,by omega⟩
         obtain⟨n2,rfl⟩:∃n2,nb1=n2+1:=⟨nb1-1,by omega⟩
         simp only[z79];refine z41 (qf (by omega) ?_);refine z41 (qf (by omega) ?_);refine z41 (C.lt _ _ (T.ub _ (kt (by omega))) (T.ua _ (kt (by omega))) _ _ hk ?_);dsimp only;cases hw:blt (ix b n2) (ix a n1)
         · simp only[z47,z6b];refine z41 (qf (by omega) ?_);have m2:=zm8 C T mm (by omega) p1 fun _=>by rw[z79];exact hw
           by_cases f1:n2=1
           · rw[z5g (by simpa using f1)];exact z5b ⟨rfl,.inr ⟨_,_,rfl,z0w T (by omega) m2 f1⟩⟩
           · rw[z5n (by simpa using f1)];have at2:Ah blt a b (out1.push (ix b n2)) (n1+1) n2:=⟨by omega,p1,by omega,by omega,m2⟩
             split
             · exact z5b ⟨rfl,.inl ⟨_,_,_,_,_,rfl,at2,by rw[z52];omega⟩⟩
             · exact z5b ⟨_,_,_,_,_,rfl,rfl,at2,by rw[z52];omega⟩
         · simp only[z6s];refine z41 (qf (by omega) ?_);have m2:=zh6 C T mm (by omega) p2 fun _=>by rw[z79];exact hw
           by_cases f1:n1=0
           · rw[z5g (by simpa using f1)];exact z5b ⟨rfl,.inr ⟨_,_,rfl,zza m2 (.inr f1)⟩⟩
           · rw[z5n (by simpa using f1)];have at2:Ah blt a b (out1.push (ix a n1)) n1 (n2+1):=⟨by omega,by omega,by omega,p2,m2⟩
             split
             · exact z5b ⟨rfl,.inl ⟨_,_,_,_,_,rfl,at2,by rw[z52];omega⟩⟩
             · exact z5b ⟨_,_,_,_,_,rfl,rfl,at2,by rw[z52];omega⟩
       · rintro c1 st1 ⟨out1,na1,nb1,ac,bc,rfl,rfl,at1,sz1⟩;exact⟨rfl,.inl ⟨_,_,_,_,_,rfl,at1,by omega⟩⟩
       · rintro c1 st1 ⟨rfl,⟨out1,na1,nb1,ac,bc,rfl,at1,sz1⟩ | ⟨r,q,rfl,gr⟩⟩
         · dsimp only;refine z41 (za3 ?_);refine z41 (z6x (z6k
             (I:=fun x2 c2 st2=>∃g2 out2 na2 nb2 mg2 ac2 bc2,st2=zbo st g2/\c2=(none,na2,nb2,out2,mg2,ac2,bc2)/\Ah blt a b out2 na2 nb2/\out.size+1<=out2.size)
             (Q:=fun c2 st2=>∃g2,st2=zbo st g2/\((∃out2 na2 nb2 mg2 ac2 bc2,c2=(none,na2,nb2,out2,mg2,ac2,bc2)/\Ah blt a b out2 na2 nb2/\out.size+1<=out2.size)\/∃r q,c2=(some r,q)/\yk blt a b r)) ?_ ?_ ⟨g,out1,na1,nb1,mg+1,ac,bc,rfl,rfl,at1,sz1⟩) ?_)
           · rintro x2 c2 st2 _ hx2 ⟨g2,out2,na2,nb2,mg2,ac2,bc2,rfl,rfl,at2,sz2⟩;dsimp only;show wpS _ _ _ _ (if mg2>1 then zqq a b out2 na2 nb2 (mg2-1) ac2 bc2 else zqq a b out2 na2 nb2 mg2 ac2 bc2) _ _;by_cases f0:mg2>1
             · rw[z5g f0];refine z6x (zgl (st:=st) (N:=out.size+1) C T hk at2 sz2) fun r st2 hr=>?_;rcases hr with⟨g3,rfl,⟨o,i1,i2,mm,c1,c2,e | e,q1,q2⟩ | ⟨v,q,rfl,gv⟩⟩
               · subst e;exact⟨g3,rfl,.inl ⟨o,i1,i2,mm,c1,c2,rfl,q1,q2⟩⟩
               · subst e;exact⟨g3,o,i1,i2,mm,c1,c2,rfl,rfl,q1,q2⟩
               · exact⟨g3,rfl,.inr ⟨v,q,rfl,gv⟩⟩
             · rw[z5n f0];refine z6x (zgl (st:=st) (N:=out.size+1) C T hk at2 sz2) fun r st2 hr=>?_;rcases hr with⟨g3,rfl,⟨o,i1,i2,mm,c1,c2,e | e,q1,q2⟩ | ⟨v,q,rfl,gv⟩⟩
               · subst e;exact⟨g3,rfl,.inl ⟨o,i1,i2,mm,c1,c2,rfl,q1,q2⟩⟩
               · subst e;exact⟨g3,o,i1,i2,mm,c1,c2,rfl,rfl,q1,q2⟩
               · exact⟨g3,rfl,.inr ⟨v,q,rfl,gv⟩⟩
           · rintro c2 st2 ⟨g2,out2,na2,nb2,mg2,ac2,bc2,rfl,rfl,at2,sz2⟩;exact⟨g2,rfl,.inl ⟨_,_,_,_,_,_,rfl,at2,sz2⟩⟩
           · rintro c2 st2 ⟨g2,rfl,⟨out2,na2,nb2,mg2,ac2,bc2,rfl,at2,sz2⟩ | ⟨r,q,rfl,gr⟩⟩
             · dsimp only;refine z41 (zfa ?_);exact z5b ⟨mg2+1,out2,na2,nb2,mg2+1,rfl,rfl,at2,by omega⟩
             · dsimp only;exact z5b ⟨g2,r,rfl,rfl,gr⟩
         · dsimp only;exact z5b ⟨g,r,rfl,rfl,gr⟩
     · rintro c st' ⟨g,out,na,nb,mg,rfl,rfl,at0,sz⟩;have:=at0.le;omega
     · rintro c st' ⟨g,r,rfl,e,gr⟩;rw[e];exact z5b (h r g gr)
end
theorem zic(i:Nat):mergeAt' i=(do
 let s <-get
 let(some (sa,na,power),some (sb,nb,_)):=((pendingOf s)[i]?,(pendingOf s)[i+1]?) | unsupported "internal:list.sort.pending"
 set (SortSt.mk' (kindOf s) (arrOf s) (((pendingOf s).setIfInBounds i (sa,na+nb,power)).eraseIdxIfInBounds (i+1)) (gallopOf s) (failedOf s))
 let some k <-j0 false (<-elem' (arrOf s) sb) (arrOf s) sa na 0 | return false
 let(sa,na):=(sa+k,na-k)
 if na==0 then return true
 let some nb <-j0 true (<-elem' (arrOf s) (sa+na-1)) (arrOf s) sb nb (nb-1) | return false
 if nb==0 then return true
 let x:=(arrOf s).extract sa sb
 let y:=(arrOf s).extract sb (sb+nb)
 let merged <-if na<=nb then zfm x y else zfn x y
 modify fun s=>setArr s (merged.toList.zipIdx.foldl (fun a (p,j)=>a.setIfInBounds (sa+j) p) (arrOf s))
 return(failedOf (<-get)).isNone):=rfl
theorem zjk(base:Nat):∀(l:List Keyed) (j:Nat) (arr:Array Keyed),base+j+l.length<=arr.size->((l.zipIdx j).foldl (fun a (p:Keyed×Nat)=>a.setIfInBounds (base+p.2) p.1) arr).toList=arr.toList.take (base+j)++(l++arr.toList.drop (base+j+l.length))
 | [],j,arr,_=>by simp
 | p::l,j,arr,h=>by
   rw[List.length_cons]at h;rw[List.zipIdx_cons,List.foldl_cons,zjk base l (j+1) _ (by rw[z94];omega)];rw[z9r];have hl:base+j<arr.toList.length:=by rw[Array.length_toList];omega
   rw[show base+(j+1)=base+j+1 by omega,List.take_add_one,z51 hl,List.take_set_of_le (z4v _),List.drop_set_of_lt (by omega)];simp only[Option.toList_some,z48,List.singleton_append,List.length_cons];rw[show base+j+1+l.length=base+j+(l.length+1) by omega];rfl
section
variable {blt:Keyed->Keyed->Bool}{pre X Y post:List Keyed}{arr:Array Keyed}{j:Nat}
theorem ix_list(h:arr.toList=pre++(X++post))(hj:j<X.length):ix arr (pre.length+j)=X[j]:=by unfold ix;rw[<-z57,h,z5i (by omega),z62,z5v hj,z4x hj];rfl
theorem zop{l:Nat}(h:arr.toList=pre++(X++post))(hj:j<=l)(hl:l<=X.length):(arr.extract (pre.length+j) (pre.length+l)).toList=(X.drop j).take (l-j):=by rw[z7c,List.extract_eq_drop_take,h,<-z89,z90,show pre.length+l-(pre.length+j)=l-j by omega,z6y (by omega),z6z (by rw[z5o];omega)]
theorem zm5{a:Array Keyed}(irr:∀x,blt x x=false)(h:a.toList.Pairwise (le blt)):zpg blt a:=by
 intro i j hij hj;rcases z60 i j with q | q
 · rw[z6w]at h;have e:∀{i} (h:i<a.toList.length),a.toList[i]=ix a i:=fun {i} h=>by rw[Array.length_toList]at h;unfold ix;rw[z5x h];simp
   have:=h i j (by rw[Array.length_toList];omega) (by rw[Array.length_toList];omega) q;rw[e,e]at this;exact this
 · rw[show i=j by omega];exact irr _
end
section
variable {prog:Program}{w:World}{A:Around}{E:zVP}{s:Shared}{blt:Keyed->Keyed->Bool}{U:Keyed->Prop}{kd:SortKind}{st:SortSt}{a b:Array Keyed}{pre X Y post:List Keyed}
theorem Cmp.irr(C:Cmp prog w A E s kd U blt)(x:Keyed):blt x x=false:=by
 cases q:blt x x
 · rfl
 · have:=C.asy _ _ q;rw[q]at this;exact this
theorem zl5(C:Cmp prog w A E s kd U blt)(hk:kindOf st=kd){y:Keyed}{i n hint:Nat}(uy:U y)(ua:∀x∈a.toList,U x)(sa:∀j l,j<=l->l<n->le blt (ix a (i+j)) (ix a (i+l)))(hn:i+n<=a.size)(hh:hint<n){Q:Option Nat->SortSt->Prop}
   (h:∀k,k<=n->(∀j,j<k->le blt (ix a (i+j)) y)->(∀j,k<=j->j<n->blt y (ix a (i+j))=true)->Q (some k) st):wpS (model prog w) A E s (j0 false y a i n hint) Q st:=by
 rw[za7];refine yu (P:=fun j=>!(blt y (ix a (i+j)))) (fun j hj Q hq=>?_) (fun j l hjl hl hp=>?_) hh fun k k1 k2 k3=>h k k1 (fun j hj=>by have:=k2 j hj;unfold le;simpa using this) (fun j h1 h2=>by have:=k3 j h1 h2;simpa using this)
 · unfold byd;refine z41 (qf (by omega) ?_);simp only[z47,z6b];exact z41 (C.lt _ _ uy (ua _ (kt (by omega))) _ _ hk (z5b hq))
 · have e:blt y (ix a (i+l))=false:=by simpa using hp
   have:=C.tr _ _ _ (sa j l hjl hl) e;simp[this]
theorem zl4(C:Cmp prog w A E s kd U blt)(hk:kindOf st=kd){x:Keyed}{i n hint:Nat}(ux:U x)(ub:∀x∈b.toList,U x)(sb:∀j l,j<=l->l<n->le blt (ix b (i+j)) (ix b (i+l)))(hn:i+n<=b.size)(hh:hint<n){Q:Option Nat->SortSt->Prop}
   (h:∀k,k<=n->(∀j,j<k->blt (ix b (i+j)) x=true)->(∀j,k<=j->j<n->le blt x (ix b (i+j)))->Q (some k) st):wpS (model prog w) A E s (j0 true x b i n hint) Q st:=by
 rw[za7];refine yu (P:=fun j=>blt (ix b (i+j)) x) (fun j hj Q hq=>?_) (fun j l hjl hl hp=>?_) hh h
 · unfold byd;refine z41 (qf (by omega) ?_);simp only[z6s];exact C.lt _ _ (ub _ (kt (by omega))) ux _ _ hk hq
 · cases q:blt (ix b (i+j)) x
   · have:=C.tr x (ix b (i+j)) (ix b (i+l)) q (sb j l hjl hl);rw[this]at hp;cases hp
   · rfl
theorem zxe(irr:∀x,blt x x=false)(sx:X.Pairwise (le blt)){j l:Nat}(hl:l<X.length)(hj:j<=l):le blt (X[j]'(z6o hj hl)) X[l]:=by
 rcases z60 j l with q | q
 · exact(z6w.mp sx) j l _ hl q
 · cases z7z hj q;exact irr _
theorem zht(C:Cmp prog w A E s kd U blt){i:Nat}{P:Array (Nat×Nat×Nat)}{p1 p2:Nat}(hk:kindOf st=kd)(hfl:failedOf st=none)(hp:pendingOf st=P)(h1:P[i]? = some (pre.length,X.length,p1))(h2:P[i+1]? = some (pre.length+X.length,Y.length,p2))
   (ha:(arrOf st).toList=pre++(X++(Y++post))) (ua:∀x∈(arrOf st).toList,U x) (sx:X.Pairwise (le blt)) (sy:Y.Pairwise (le blt)) (x0:0<X.length) (y0:0<Y.length) {Q:Bool->SortSt->Prop}
   (h:∀(Z:List Keyed) (a':Array Keyed) (g:Nat),a'.toList=pre++(Z++post)->Z.Pairwise (le blt)->Z.Perm (X++Y)->Q true (SortSt.mk' kd a' ((P.setIfInBounds i (pre.length,X.length+Y.length,p1)).eraseIdxIfInBounds (i+1)) g none)):wpS (model prog w) A E s (mergeAt' i) Q st:=by
 have irr:=C.irr;have haX:(arrOf st).toList=pre++(X++(Y++post)):=ha;have haY:(arrOf st).toList=(pre++X)++(Y++post):=by rw[z48];exact ha
 have lpx:(pre++X).length=pre.length+X.length:=z4t;have asz:(arrOf st).size=pre.length+(X.length+(Y.length+post.length)):=by rw[<-Array.length_toList,ha];simp only[z4t]
 have ixX:∀{j},(hj:j<X.length)->ix (arrOf st) (pre.length+j)=X[j]:=fun {j} hj=>ix_list haX hj;have ixY:∀{j},(hj:j<Y.length)->ix (arrOf st) (pre.length+X.length+j)=Y[j]:=fun {j} hj=>by rw[<-lpx];exact ix_list haY hj
 have pX:∀{j l} (hl:l<X.length) (hj:j<=l),le blt (X[j]'(z6o hj hl)) X[l]:=fun hl hj=>zxe irr sx hl hj;have pY:∀{j l} (hl:l<Y.length) (hj:j<=l),le blt (Y[j]'(z6o hj hl)) Y[l]:=fun hl hj=>zxe irr sy hl hj;have uX:∀x∈X,U x:=fun x hx=>ua x (by rw[ha];simp[hx]);have uY:∀x∈Y,U x:=fun x hx=>ua x (by rw[ha];simp[hx]);rw[zic];refine z41 (z9n ?_);rw[hp,h1,h2];dsimp only;refine z41 (z76 (f:=fun _=>_) ?_);refine z41 (qf (by omega) ?_);have e0:=ixY (j:=0) y0;rw[Nat.add_zero]at e0;rw[e0];refine z41 (zl5 (a:=arrOf st) (st:=SortSt.mk' (kindOf st) (arrOf st) ((P.setIfInBounds i (pre.length,X.length+Y.length,p1)).eraseIdxIfInBounds (i+1)) (gallopOf st) (failedOf st)) (y:=Y[0]) (i:=pre.length) (n:=X.length) (hint:=0) C hk (uY _ (z74 _)) ua (fun j l hj hl=>by rw[ixX (z6o hj hl),ixX hl];exact pX hl hj) (by omega) x0 fun k k1 k2 k3=>?_);dsimp only;rw[hk,hfl];by_cases f1:X.length-k=0
 · rw[z5g (by simpa using f1)];refine z5b (h (X++Y) (arrOf st) (gallopOf st) (by rw[ha];simp) ?_ (z77 _));refine z4y.mpr ⟨sx,sy,fun x hx y hy=>?_⟩;obtain⟨j,hj,rfl⟩:=z5p hx;obtain⟨l,hl,rfl⟩:=z5p hy;have:=k2 j (z4w hj (Nat.le_of_sub_eq_zero f1));rw[ixX hj]at this;exact C.tr _ _ _ this (pY hl (z5y _))
 · rw[z5n (by simpa using f1)];have k4:k<X.length:=Nat.lt_of_sub_ne_zero f1;have xe:X.length-1<X.length:=Nat.sub_lt x0 Nat.one_pos;have ye:Y.length-1<Y.length:=Nat.sub_lt y0 Nat.one_pos;rw[show pre.length+k+(X.length-k)-1=pre.length+(X.length-1) by rw[z7t,z8n k1,Nat.add_sub_assoc x0]];refine z41 (qf (by rw[asz];exact z7n (z4w xe (z5d ..)) _) ?_);rw[ixX (j:=X.length-1) xe];refine z41 (zl4 (b:=arrOf st) (st:=SortSt.mk' kd (arrOf st) ((P.setIfInBounds i (pre.length,X.length+Y.length,p1)).eraseIdxIfInBounds (i+1)) (gallopOf st) none) (x:=X[X.length-1]) (i:=pre.length+X.length) (n:=Y.length) (hint:=Y.length-1) C rfl (uX _ (z74 _)) ua (fun j l hj hl=>by rw[ixY (z6o hj hl),ixY hl];exact pY hl hj) (by omega) ye fun t t1 t2 t3=>?_);dsimp only;by_cases f2:t=0
   · rw[z5g (by simpa using f2)];refine z5b (h (X++Y) (arrOf st) (gallopOf st) (by rw[ha];simp) ?_ (z77 _));refine z4y.mpr ⟨sx,sy,fun x hx y hy=>?_⟩;obtain⟨j,hj,rfl⟩:=z5p hx;obtain⟨l,hl,rfl⟩:=z5p hy;have:=t3 l (f2▸z5y _) hl;rw[ixY hl]at this;exact C.tr _ _ _ (pX xe (Nat.le_sub_one_of_lt hj)) this
   · rw[z5n (by simpa using f2)];have t0:0<t:=Nat.pos_of_ne_zero f2;clear f1 f2;have ex:((arrOf st).extract (pre.length+k) (pre.length+X.length)).toList=X.drop k:=by rw[zop haX k1 (z4v _),z59 (by rw[z5o];exact z4v _)]
     have ey:((arrOf st).extract (pre.length+X.length) (pre.length+X.length+t)).toList=Y.take t:=by have:=zop (j:=0) (l:=t) haY (z5y _) t1;rw[lpx,Nat.add_zero,z78,Nat.sub_zero]at this;exact this
     generalize hx:(arrOf st).extract (pre.length+k) (pre.length+X.length)=x at ex;generalize hy:(arrOf st).extract (pre.length+X.length) (pre.length+X.length+t)=y at ey;have xs:x.size=X.length-k:=by rw[<-Array.length_toList,ex,z5o]
     have ys:y.size=t:=by rw[<-Array.length_toList,ey,z49,z70 t1]
     have ixx:∀{j},(hj:k+j<X.length)->ix x j=X[k+j]:=fun {j} hj=>by unfold ix;rw[<-z57,ex,z8x,z4x hj];rfl
     have ixy:∀{j},(hj:j<t)->ix y j=Y[j]'(z4w hj t1):=fun {j} hj=>by unfold ix;rw[<-z57,ey,z9v,z5g hj,z4x (z4w hj t1)];rfl
     have sX:zpg blt x:=zm5 irr (by rw[ex];exact z8d (List.drop_sublist _ _) sx);have sY:zpg blt y:=zm5 irr (by rw[ey];exact z8d (z84 _ _) sy);have uxx:∀z∈x.toList,U z:=fun z hz=>uX z (z7d (ex▸hz));have uyy:∀z∈y.toList,U z:=fun z hz=>uY z (z5r (ey▸hz));have hf:blt (ix y 0) (ix x 0)=true:=by have:=k3 k (z4v _) k4;rw[ixX k4]at this;rw[ixy t0,ixx (j:=0) k4];simpa using this
     have hl:∀j,j<t->blt (ix y j) (ix x (x.size-1))=true:=fun j hj=>by
       have:=t2 j hj;rw[ixY (z4w hj t1)]at this;have e:ix x (x.size-1)=X[X.length-1]:=by
         have q:k+(x.size-1)=X.length-1:=by rw[xs,<-Nat.add_sub_assoc (z95 k4),z8n k1]
         rw[ixx (j:=x.size-1) (q▸xe)];congr 1
       rw[ixy hj,e];exact this
     have eL:pre.length+k+(X.length-k+t)=pre.length+(X.length+t):=by rw[<-z7t,z7t pre.length,z8n k1,z7t]
     have fin:∀(r:Array Keyed) (g:Nat),yk blt x y r->wpS (model prog w) A E s (do
         modify fun s=>setArr s (r.toList.zipIdx.foldl (fun a (p,j)=>a.setIfInBounds (pre.length+k+j) p) (arrOf s))
         return(failedOf (<-get)).isNone) Q (SortSt.mk' kd (arrOf st) ((P.setIfInBounds i (pre.length,X.length+Y.length,p1)).eraseIdxIfInBounds (i+1)) g none):=by
       intro r g gr;have rl:r.toList.length=X.length-k+t:=by rw[gr.2.length_eq,ex,ey,z4t,z5o,z49,z70 t1]
       refine z41 (z76 ?_);refine z41 (z9n ?_);have pl:=zjk (pre.length+k) r.toList 0 (arrOf st) (by rw[rl,Nat.add_zero,asz,eL];exact z9o (z9o (z5j t1 (z5d ..)) _) _);rw[Nat.add_zero]at pl;refine z5b (h (X.take k++(r.toList++Y.drop t)) _ g (Eq.trans pl ?_) ?_ ?_)
       · rw[rl,ha];have e1:(pre++(X++(Y++post))).take (pre.length+k)=pre++X.take k:=by rw[List.take_append,z59 (z5d ..),z62,z6z k1]
         have e2:(pre++(X++(Y++post))).drop (pre.length+k+(X.length-k+t))=Y.drop t++post:=by rw[eL,<-z89,z90,<-z89,z90,z6y t1]
         rw[e1,e2];simp only[z48]
       · have inr:∀z∈r.toList,z∈X.drop k\/z∈Y.take t:=fun z hz=>by have:=gr.2.mem_iff.mp hz;rw[ex,ey]at this;exact z5k.mp this
         refine z4y.mpr ⟨z8d (z84 _ _) sx,z4y.mpr ⟨gr.1,z8d (List.drop_sublist _ _) sy,fun z hz v hv=>?_⟩,fun z hz v hv=>?_⟩
         · obtain⟨l,hl',rfl⟩:=z5p hv;rw[z5o]at hl';rw[z7j];rcases inr z hz with q | q
           · obtain⟨j,hj,rfl⟩:=z5p q;rw[z5o]at hj;rw[z7j];have hl2:=z8e hl';have:=t3 (t+l) (z5d ..) hl2;rw[ixY hl2]at this;exact C.tr _ _ _ (pX xe (Nat.le_sub_one_of_lt (z8e hj))) this
           · obtain⟨j,hj,rfl⟩:=z5p q;rw[z49]at hj;rw[z7i];exact pY (z8e hl') (z5j (z6u (z4w hj (qac ..))) (z5d ..))
         · obtain⟨j,hj,rfl⟩:=z5p hz;rw[z49]at hj;rw[z7i];have jk:=z4w hj (qac ..);have a1:=k2 j jk;rw[ixX (z4w jk k1)]at a1;have inY:∀v∈Y,le blt X[j] v:=fun v hv=>by obtain⟨l,hl',rfl⟩:=z5p hv;exact C.tr _ _ _ a1 (pY hl' (z5y _))
           rcases z5k.mp hv with hv | hv
           · rcases inr v hv with q | q
             · obtain⟨l,hl',rfl⟩:=z5p q;rw[z5o]at hl';rw[z7j];exact pX (z8e hl') (z5j (z6u jk) (z5d ..))
             · exact inY v (z5r q)
           · exact inY v (z7d hv)
       · have g2:=gr.2;rw[ex,ey]at g2;refine List.Perm.trans (z7s _ (z7o _ g2)) ?_;rw[z48,z6e,<-z48,z6e]
     have xp:0<x.size:=by rw[xs];exact z95 k4
     by_cases f3:X.length-k<=t
     · rw[z5g f3];refine z41 (zhr (st:=SortSt.mk' kd (arrOf st) ((P.setIfInBounds i (pre.length,X.length+Y.length,p1)).eraseIdxIfInBounds (i+1)) (gallopOf st) none) C ⟨sX,sY,uxx,uyy,fun z hz=>?_⟩ rfl xp (by rw[ys];exact t0) hf fun r g gr=>fin r g gr);obtain⟨j,hj,j2,rfl⟩:=za5 (i:=0) (by rw[z78];exact hz);exact C.asy _ _ (hl j (ys▸j2))
     · rw[z5n f3];refine z41 (zhs (st:=SortSt.mk' kd (arrOf st) ((P.setIfInBounds i (pre.length,X.length+Y.length,p1)).eraseIdxIfInBounds (i+1)) (gallopOf st) none) C ⟨sX,sY,uxx,uyy,fun z hz=>?_⟩ rfl xp (by rw[ys];exact t0) (by rw[ys];exact hl (t-1) (Nat.sub_lt t0 Nat.one_pos)) fun r g gr=>fin r g gr);obtain⟨j,hj,j2,rfl⟩:=za5 (i:=0) (by rw[z78];exact hz);exact C.tr _ _ _ (C.asy _ _ hf) (sX 0 j hj j2)
end
section
variable {prog:Program}{w:World}{A:Around}{E:zVP}{s:Shared}{blt:Keyed->Keyed->Bool}{U:Keyed->Prop}{kd:SortKind}{st:SortSt}{arr:Array Keyed}
def Asc(blt:Keyed->Keyed->Bool)(a:Array Keyed)(lo hi:Nat):Prop:=∀i j,lo<=i->i<j->j<hi->blt (ix a i) (ix a j)=true
def Des(blt:Keyed->Keyed->Bool)(a:Array Keyed)(lo hi:Nat):Prop:=∀i j,lo<=i->i<j->j<hi->blt (ix a j) (ix a i)=true
def Dis(blt:Keyed->Keyed->Bool)(a:Array Keyed):Prop:=∀i j,i≠j->i<a.size->j<a.size->blt (ix a i) (ix a j)=false->blt (ix a j) (ix a i)=true
theorem Cmp.ltr(C:Cmp prog w A E s kd U blt){x y z:Keyed}(h1:blt x y=true)(h2:blt y z=true):blt x z=true:=by
 cases q:blt x z
 · have:=C.tr y z x (C.asy _ _ h2) q;rw[this]at h1;cases h1
 · rfl
theorem zal(C:Cmp prog w A E s kd U blt)(hk:kindOf st=kd)(ua:∀x∈(arrOf st).toList,U x){i j:Nat}(hi:i<(arrOf st).size)(hj:j<(arrOf st).size){Q:Option Bool->SortSt->Prop}(h:Q (some (blt (ix (arrOf st) i) (ix (arrOf st) j))) st):wpS (model prog w) A E s (ltAt' i j) Q st:=by rw[ltAt'_eq];refine z41 (z9n ?_);refine z41 (qf hi (z41 (qf hj ?_)));exact C.lt _ _ (ua _ (kt hi)) (ua _ (kt hj)) _ _ hk h
theorem Asc.snoc(C:Cmp prog w A E s kd U blt){a:Array Keyed}{lo n:Nat}(h:Asc blt a lo (lo+n))(n1:1<=n)(hl:blt (ix a (lo+n-1)) (ix a (lo+n))=true):Asc blt a lo (lo+(n+1)):=fun i j hi hij hj=>by
 rcases z60 j (lo+n)with q | q
 · exact h i j hi hij q
 · have:j=lo+n:=by omega
   subst this;rcases z60 i (lo+n-1)with q2 | q2
   · exact C.ltr (h i (lo+n-1) hi q2 (by omega)) hl
   · have:i=lo+n-1:=by omega
     subst this;exact hl
theorem Des.snoc(C:Cmp prog w A E s kd U blt){a:Array Keyed}{lo n:Nat}(h:Des blt a lo (lo+n))(n1:1<=n)(hl:blt (ix a (lo+n)) (ix a (lo+n-1))=true):Des blt a lo (lo+(n+1)):=fun i j hi hij hj=>by
 rcases z60 j (lo+n)with q | q
 · exact h i j hi hij q
 · have:j=lo+n:=by omega
   subst this;rcases z60 i (lo+n-1)with q2 | q2
   · exact C.ltr hl (h i (lo+n-1) hi q2 (by omega))
   · have:i=lo+n-1:=by omega
     subst this;exact hl
theorem zdo{a:Array Keyed}{i j:Nat}(hj:j<=a.size)(k:Nat):ix (mirror a i j ((j-i)/2)) k=if i<=k/\k<j then ix a (i+j-1-k)else ix a k:=by have e:=getElem?_mirror_all (i:=i) hj k;unfold ix;rw[e];split<;>rfl
theorem zdp{a:Array Keyed}{src d:Nat}(hs:src<a.size)(hd:d<=src)(k:Nat):ix (bubble a src d) k=if k=src-d then ix a src else if src-d<k/\k<=src then ix a (k-1)else ix a k:=by
 have e:=getElem?_bubble hs d hd k;unfold ix;rw[e];split
 · rfl
 · split<;>rfl
structure Sam (lo:Nat) (a a':Array Keyed):Prop where
 pm:a'.toList.Perm a.toList
 ne:∀i,i<lo->ix a' i=ix a i
theorem Sam.size{lo:Nat}{a a':Array Keyed}(h:Sam lo a a'):a'.size=a.size:=by have:=h.pm.length_eq;rw[Array.length_toList,Array.length_toList]at this;exact this
theorem Sam.refl(lo:Nat)(a:Array Keyed):Sam lo a a:=⟨z77 _,fun _ _=>rfl⟩
theorem Sam.trans{lo:Nat}{a b c:Array Keyed}(h:Sam lo a b)(h':Sam lo b c):Sam lo a c:=⟨h'.pm.trans h.pm,fun i hi=>(h'.ne i hi).trans (h.ne i hi)⟩
theorem zkw{lo:Nat}{a:Array Keyed}{j:Nat}(hj:j<=a.size):Sam lo a (mirror a lo j ((j-lo)/2)) :=
 ⟨(mirror_perm a lo j ((j-lo)/2)).toList,fun i hi=>by rw[zdo hj,z5n (by omega)]⟩
theorem zkx{lo:Nat}{a:Array Keyed}{src d:Nat}(hs:src<a.size)(hd:d<=src)(hl:lo<=src-d):Sam lo a (bubble a src d) :=
 ⟨(bubble_perm a src d).toList,fun i hi=>by rw[zdp hs hd,z5n (by omega),z5n (by omega)]⟩
theorem Asc.mir{a:Array Keyed}{lo n:Nat}(h:Des blt a lo (lo+n))(hn:lo+n<=a.size):Asc blt (mirror a lo (lo+n) ((lo+n-lo)/2)) lo (lo+n):=fun i j hi hij hj=>by rw[zdo hn,zdo hn,z5g ⟨hi,Nat.lt_trans hij hj⟩,z5g ⟨z5j hi (z6u hij),hj⟩];clear hn;exact h _ _ (by omega) (by omega) (by omega)
theorem Dis.of{lo:Nat}{a a':Array Keyed}(d:a.toList.Pairwise fun x y=>blt x y=true\/blt y x=true)(h:Sam lo a a'):a'.toList.Pairwise fun x y=>blt x y=true\/blt y x=true :=
 (h.pm.pairwise_iff (fun {x y} q=>q.symm)).mpr d
theorem zke{a:Array Keyed}(d:a.toList.Pairwise fun x y=>blt x y=true\/blt y x=true):Dis blt a:=by
 have e:∀{i} (h:i<a.toList.length),a.toList[i]=ix a i:=fun {i} h=>by rw[Array.length_toList]at h;unfold ix;rw[z5x h];simp
 intro i j hij hi hj hf;rw[z6w]at d;rcases z60 i j with q | q
 · have:=d i j (by rw[Array.length_toList];exact hi) (by rw[Array.length_toList];exact hj) q;rw[e,e]at this;rcases this with z | z
   · rw[z]at hf;cases hf
   · exact z
 · have:=d j i (by rw[Array.length_toList];exact hj) (by rw[Array.length_toList];exact hi) (by omega);rw[e,e]at this;rcases this with z | z
   · exact z
   · rw[z]at hf;cases hf
theorem zl6(C:Cmp prog w A E s kd U blt)(hk:kindOf st=kd)(ua:∀x∈(arrOf st).toList,U x)(hd:Dis blt (arrOf st)){lo n0 nrem:Nat}(hs:lo+nrem=(arrOf st).size)(n1:1<=n0)(n2:n0<=nrem)(h0:Asc blt (arrOf st) lo (lo+n0)){Q:Option (Option Nat)×Nat->SortSt->Prop}
   (h:∀n,n0<=n->n<=nrem->Asc blt (arrOf st) lo (lo+n)->(n=nrem\/blt (ix (arrOf st) (lo+n)) (ix (arrOf st) (lo+n-1))=true)->Q (none,n) st) :
   wpS (model prog w) A E s (forIn [n0:nrem] ((none,n0):Option (Option Nat)×Nat) fun _ __s=>do
     let __x <-ltAt' (lo+__s.snd) (lo+__s.snd-1)
     match __x with
     |some smaller=>if smaller=true then pure (ForInStep.done (none,__s.snd))else pure (ForInStep.yield (none,__s.snd+1))
     |_=>pure (ForInStep.done (some none,__s.snd))) Q st:=by
 refine z6k (I:=fun x c st'=>st'=st/\c=(none,x)/\Asc blt (arrOf st) lo (lo+x)) ?_ ?_ ⟨rfl,rfl,h0⟩
 · rintro x c st' hx1 hx ⟨rfl,rfl,ac⟩;dsimp only;refine z41 (zal C hk ua (by omega) (by omega) ?_);dsimp only;cases q:blt (ix (arrOf st') (lo+x)) (ix (arrOf st') (lo+x-1))
   · simp only[z47,z6b];exact z5b ⟨rfl,rfl,ac.snoc C (by omega) (hd _ _ (by omega) (by omega) (by omega) q)⟩
   · simp only[z6s];exact z5b (h x hx1 (by omega) ac (.inr q))
 · rintro c st' ⟨rfl,rfl,ac⟩;rw[z9e n2]at ac ⊢;exact h nrem n2 (z4v _) ac (.inl rfl)
theorem zfb(C:Cmp prog w A E s kd U blt)(hk:kindOf st=kd)(ua:∀x∈(arrOf st).toList,U x)(hd:(arrOf st).toList.Pairwise fun x y=>blt x y=true\/blt y x=true){lo nrem:Nat}(hs:lo+nrem=(arrOf st).size)(n0:1<=nrem){Q:Option Nat->SortSt->Prop}
   (h:∀n a',1<=n->n<=nrem->Sam lo (arrOf st) a'->Asc blt a' lo (lo+n)->Q (some n) (setArr st a')):wpS (model prog w) A E s (countRun' lo nrem) Q st:=by
 have es:st=setArr st (arrOf st):=rfl;rw[countRun'_eq];refine z41 (z6x (zl6 (n0:=1) C hk ua (zke hd) hs (z4v _) n0 (fun i j a b c=>by omega) (Q:=fun c st'=>st'=st/\∃n,c=(none,n)/\1<=n/\n<=nrem/\Asc blt (arrOf st) lo (lo+n)/\(n=nrem\/blt (ix (arrOf st) (lo+n)) (ix (arrOf st) (lo+n-1))=true)) fun n a1 a2 a3 a4=>⟨rfl,n,rfl,a1,a2,a3,a4⟩) ?_);rintro c st' ⟨rfl,n,rfl,a1,a2,a3,a4⟩;dsimp only;by_cases e1:n=nrem
 · rw[z5g (by simpa using e1)];have:=h n (arrOf st') a1 a2 (Sam.refl _ _) a3;rw[<-es]at this;exact z5b this
 · rw[z5n (by simpa using e1)];have a4:=a4.resolve_left e1;by_cases e2:n>1
   · rw[z5g e2];refine z41 (zal C hk ua (by omega) (by omega) ?_);dsimp only;rw[a3 lo (lo+n-1) (z4v _) (by omega) (by omega)];simp only[z6s];have:=h n (arrOf st') a1 a2 (Sam.refl _ _) a3;rw[<-es]at this;exact z5b this
   · rw[z5n e2];have:n=1:=by omega
     subst this;refine z41 (za3 ?_);refine z41 (z6x (z6k (I:=fun x c st2=>st2=st'/\c=(none,x,0)/\Des blt (arrOf st') lo (lo+x)) (Q:=fun c st2=>st2=st'/\∃n,c=(none,n,0)/\2<=n/\n<=nrem/\Des blt (arrOf st') lo (lo+n)) ?_ ?_ ⟨rfl,rfl,fun i j p1 p2 p3=>?_⟩) ?_)
     · rintro x c st2 hx1 hx ⟨rfl,rfl,de⟩;dsimp only;refine z41 (zal C hk ua (by omega) (by omega) ?_);dsimp only;cases q:blt (ix (arrOf st2) (lo+x)) (ix (arrOf st2) (lo+x-1))
       · simp only[z47,z6b];refine z41 (zal C hk ua (by omega) (by omega) ?_);dsimp only;rw[zke hd _ _ (by omega) (by omega) (by omega) q];simp only[z6s];exact z5b ⟨rfl,x,rfl,by omega,by omega,de⟩
       · simp only[z6s];rw[z5n (by decide)];exact z5b ⟨rfl,rfl,de.snoc C (by omega) q⟩
     · rintro c st2 ⟨rfl,rfl,de⟩;have e:1+1<=nrem:=by omega
       rw[z9e e]at de ⊢;exact⟨rfl,nrem,rfl,e,z4v _,de⟩
     · have:i=lo:=by omega
       subst this;have:j=i+1:=by omega
       subst this;simpa using a4
     · rintro c st2 ⟨rfl,n,rfl,n2,n3,de⟩;dsimp only;rw[z5n (by decide)];rw[reverseSlice'_eq];refine z41 (z76 ?_);have sm:=zkw (lo:=lo) (a:=arrOf st2) (j:=lo+n) (by omega);have am:=Asc.mir de (by omega);generalize hm:mirror (arrOf st2) lo (lo+n) ((lo+n-lo)/2)=a2 at sm am;have z2:=sm.size;refine z41 (z6x (zl6 (st:=setArr st2 a2) (n0:=n) C hk (fun x hx=>ua x (sm.pm.mem_iff.mp hx)) (zke (Dis.of hd sm)) (by show lo+nrem=a2.size;omega) (by omega) n3 am (Q:=fun c st'=>st'=setArr st2 a2/\∃m,c=(none,m)/\n<=m/\m<=nrem/\Asc blt a2 lo (lo+m)) fun m b1 b2 b3 b4=>⟨rfl,m,rfl,b1,b2,b3⟩) ?_);rintro c st3 ⟨rfl,m,rfl,b1,b2,b3⟩;exact z5b (h m a2 (by omega) b2 sm b3)
theorem zc4(C:Cmp prog w A E s kd U blt)(hk:kindOf st=kd)(ua:∀x∈(arrOf st).toList,U x)(hd:(arrOf st).toList.Pairwise fun x y=>blt x y=true\/blt y x=true){lo n ok:Nat}(hs:lo+n<=(arrOf st).size)(o1:1<=ok)(o2:ok<=n)(h0:Asc blt (arrOf st) lo (lo+ok)){Q:Bool->SortSt->Prop}
   (h:∀a',Sam lo (arrOf st) a'->Asc blt a' lo (lo+n)->Q true (setArr st a')):wpS (model prog w) A E s (binarySort' lo n ok) Q st:=by
 rw[binarySort'_eq];rw[Nat.max_eq_left o1];refine z41 (z6x (z6k (I:=fun x c st2=>c.1=none/\∃a',st2=setArr st a'/\Sam lo (arrOf st) a'/\Asc blt a' lo (lo+x)) (Q:=fun c st2=>c.1=none/\∃a',st2=setArr st a'/\Sam lo (arrOf st) a'/\Asc blt a' lo (lo+n)) ?_ ?_ ⟨rfl,arrOf st,rfl,Sam.refl _ _,h0⟩) ?_)
 · rintro x c st2 hx1 hx ⟨hc,a',rfl,sm,ac⟩;have za:=sm.size;have ua':∀y∈(arrOf (setArr st a')).toList,U y:=fun y hy=>ua y (sm.pm.mem_iff.mp hy);have di:Dis blt a':=zke (Dis.of hd sm);dsimp only;refine z41 (z6x (z6k (I:=fun y c st3=>st3=setArr st a'/\∃l r,c=(none,l,r)/\l<=r/\r<=x/\(∀i,i<l->blt (ix a' (lo+i)) (ix a' (lo+x))=true)/\(∀i,r<=i->i<x->blt (ix a' (lo+x)) (ix a' (lo+i))=true)/\r+y<=x+l)
     (Q:=fun c st3=>st3=setArr st a'/\∃l,c=(none,l,l)/\l<=x/\(∀i,i<l->blt (ix a' (lo+i)) (ix a' (lo+x))=true)/\(∀i,l<=i->i<x->blt (ix a' (lo+x)) (ix a' (lo+i))=true)) ?_ ?_ ⟨rfl,0,x,rfl,z5y _,z4v _,fun i hi=>absurd hi (z8y _),fun i h1 h2=>absurd h2 (z8r.mpr h1),z4v _⟩) ?_)
   · rintro y c st3 _ hy ⟨rfl,l,r,rfl,g1,g2,g3,g4,g5⟩;dsimp only;by_cases e:l ≥ r
     · rw[z5g e];cases z7z g1 e;exact z5b ⟨rfl,l,rfl,g2,g3,g4⟩
     · rw[z5n e];have m1:l<=(l+r)/2:=by omega
       have m2:(l+r)/2<r:=by omega
       clear e g1 hy hx1 h0 o1 o2;generalize (l+r)/2=m at m1 m2 ⊢;have mx:=z4w m2 g2;have xz:lo+x<a'.size:=by omega
       have mz:lo+m<a'.size:=by omega
       clear hs hx za;refine z41 (zal (st:=setArr st a') C hk ua' xz mz ?_);dsimp only;show wpS _ _ _ _ (if blt (ix a' (lo+x)) (ix a' (lo+m))=true then _ else _) _ _;cases q:blt (ix a' (lo+x)) (ix a' (lo+m))
       · simp only[z47,z6b];have q':=di _ _ (by omega) xz mz q;clear xz mz;refine z5b ⟨rfl,m+1,r,rfl,m2,g2,fun i hi=>?_,g4,by omega⟩;rcases z60 i m with z | z
         · exact C.ltr (ac (lo+i) (lo+m) (z5d ..) (z7n z _) (z7n mx _)) q'
         · rw[z7z (z87 hi) z];exact q'
       · simp only[z6s];clear xz mz;refine z5b ⟨rfl,l,m,rfl,m1,z6u mx,g3,fun i h1 h2=>?_,by omega⟩;rcases z60 m i with z | z
         · exact C.ltr q (ac (lo+m) (lo+i) (z5d ..) (z7n z _) (z7n h2 _))
         · rw[z7z z h1];exact q
   · rintro c st3 ⟨rfl,l,r,rfl,g1,g2,g3,g4,g5⟩;have:l=r:=by omega
     subst this;exact⟨rfl,l,rfl,g2,g3,g4⟩
   · rintro c st3 ⟨rfl,l,rfl,g2,g3,g4⟩;dsimp only;rw[moveDown'_eq];refine z41 (z76 ?_);have hb1:lo+x<a'.size:=by omega
     have hb2:lo+x-(lo+x-(lo+l))=lo+l:=Nat.sub_sub_self (z9o g2 _);refine z5b ⟨rfl,bubble a' (lo+x) (lo+x-(lo+l)),rfl,sm.trans (zkx hb1 (qaj ..) (by rw[hb2];exact z5d ..)),fun i j hi hij hj=>?_⟩;rw[zdp hb1 (qaj ..),zdp hb1 (qaj ..),hb2];clear hb1 hb2 hs hx hx1 o1 o2 za h0;by_cases i1:i=lo+l
     · rw[z5g i1,z5n (by omega),z5g (by omega)];subst i1;obtain⟨c,rfl⟩:=Nat.exists_eq_add_of_lt hij;have:=g4 (l+c) (z5d ..) (by omega);rw[<-z7t]at this;exact this
     · rw[z5n i1];by_cases j1:j=lo+l
       · rw[z5g j1,z5n (by omega)];obtain⟨c,rfl⟩:=Nat.exists_eq_add_of_le hi;exact g3 c (by omega)
       · rw[z5n j1];by_cases i2:lo+l<i/\i<=lo+x
         · rw[z5g i2,z5g (by omega)];exact ac _ _ (by omega) (by omega) (by omega)
         · rw[z5n i2];by_cases j2:lo+l<j/\j<=lo+x
           · rw[z5g j2];exact ac _ _ (by omega) (by omega) (by omega)
           · rw[z5n j2];exact ac _ _ (by omega) (by omega) (by omega)
 · rintro c st2 ⟨hc,a',rfl,sm,ac⟩;rw[z9e o2]at ac;exact⟨hc,a',rfl,sm,ac⟩
 · rintro c st2 ⟨hc,a',rfl,sm,ac⟩;dsimp only;rw[hc];exact z5b (h a' sm ac)
end
def Pm:List (Nat×Nat×Nat)->List (List Keyed)->Nat->Prop
 | [],[],_=>True
 | (s,n,_)::p,r::rs,f=>s=f/\n=r.length/\Pm p rs (f+r.length)
 |_,_,_=>False
theorem Pm.len:∀{p:List (Nat×Nat×Nat)}{rs:List (List Keyed)}{f:Nat},Pm p rs f->p.length=rs.length
 | [],[],_,_=>rfl
 | (s,n,q)::p,r::rs,f,h=>by rw[List.length_cons,List.length_cons,Pm.len h.2.2]
 | [],_::_,_,h=>h.elim
 |_::_,[],_,h=>h.elim
theorem Pm.app:∀{p p':List (Nat×Nat×Nat)}{rs rs':List (List Keyed)}{f:Nat},Pm p rs f->Pm p' rs' (f+rs.flatten.length)->Pm (p++p') (rs++rs') f
 | [],p',[],rs',f,_,h=>by simpa using h
 | (s,n,q)::p,p',r::rs,rs',f,h,h'=>⟨h.1,h.2.1,Pm.app h.2.2 (by rw[List.flatten_cons,z4t]at h';rw[z7t];exact h')⟩
 | [],_,_::_,_,_,h,_=>h.elim
 |_::_,_,[],_,_,h,_=>h.elim
theorem Pm.split:∀{p:List (Nat×Nat×Nat)}{rs:List (List Keyed)}{f i:Nat},Pm p rs f->i+1<p.length->∃Q1 Q2 R1 R2 X Y p1 p2,p=Q1++(f+R1.flatten.length,X.length,p1)::(f+R1.flatten.length+X.length,Y.length,p2)::Q2/\rs=R1++X::Y::R2/\Q1.length=i/\Pm Q1 R1 f/\Pm Q2 R2 (f+R1.flatten.length+X.length+Y.length)
 | (s,n,q)::(s',n',q')::p,r::r'::rs,f,0,h,_=>by obtain⟨rfl,rfl,rfl,rfl,h3⟩:=h;exact⟨[],p,[],rs,r,r',q,q',by simp,rfl,rfl,trivial,by simpa using h3⟩
 | (s,n,q)::p,r::rs,f,i+1,h,hl=>by
   obtain⟨rfl,rfl,h3⟩:=h;obtain⟨Q1,Q2,R1,R2,X,Y,p1,p2,e1,e2,e3,e4,e5⟩:=Pm.split (i:=i) h3 (by simpa using hl);refine⟨(s,r.length,q)::Q1,Q2,r::R1,R2,X,Y,p1,p2,?_,by rw[e2];rfl,by simp[e3],⟨rfl,rfl,e4⟩,?_⟩
   · rw[e1,List.flatten_cons,z4t,<-z7t];rfl
   · rw[List.flatten_cons,z4t,<-z7t];exact e5
 | [],_,_,_,_,hl=>by simp at hl
 | [_],_,_,0,_,hl=>by simp at hl
 |_::_::_,[_],_,0,h,_=>by obtain⟨_,_,h⟩:=h;exact h.elim
 |_::_::_,[],_,0,h,_=>h.elim
 |_::_,[],_,_+1,h,_=>h.elim
theorem Pm.pow(pw:Nat):∀{p:List (Nat×Nat×Nat)}{rs:List (List Keyed)}{f k:Nat},Pm p rs f->Pm (p.modify k fun x=>(x.1,x.2.1,pw)) rs f
 | [],[],_,_,_=>by simp[Pm]
 | (s,n,q)::p,r::rs,f,0,h=>h
 | (s,n,q)::p,r::rs,f,k+1,h=>⟨h.1,h.2.1,Pm.pow pw h.2.2⟩
 | [],_::_,_,_,h=>h.elim
 |_::_,[],_,_,h=>h.elim
section
variable {prog:Program}{w:World}{A:Around}{E:zVP}{s:Shared}{blt:Keyed->Keyed->Bool}{U:Keyed->Prop}{kd:SortKind}{st:SortSt}{T:List Keyed}
structure RI (blt:Keyed->Keyed->Bool) (kd:SortKind) (T:List Keyed) (st:SortSt) (lo:Nat) (rest:List Keyed):Prop where
 k:kindOf st=kd
 f:failedOf st=none
 pm:(arrOf st).toList.Perm T
 ex:∃rs:List (List Keyed),(arrOf st).toList=rs.flatten++rest/\Pm (pendingOf st).toList rs 0/\lo=rs.flatten.length/\∀r∈rs,r.Pairwise (le blt)/\0<r.length
theorem zb8(C:Cmp prog w A E s kd U blt)(uT:∀x∈T,U x){lo i:Nat}{rest:List Keyed}(R:RI blt kd T st lo rest)(hi:i+1<(pendingOf st).size):wpS (model prog w) A E s (mergeAt' i) (fun b st'=>b=true/\RI blt kd T st' lo rest/\(pendingOf st').size+1=(pendingOf st).size) st:=by
 obtain⟨rs,ea,ep,el,er⟩:=R.ex;obtain⟨Q1,Q2,R1,R2,X,Y,p1,p2,e1,e2,e3,e4,e5⟩:=ep.split (i:=i) (by rw[Array.length_toList];exact hi);rw[z9c]at e1 e5;have gX:=er X (by rw[e2];simp);have gY:=er Y (by rw[e2];simp);have a1:(pendingOf st)[i]? = some (R1.flatten.length,X.length,p1):=by rw[<-z57,e1,<-e3,z5i (z4v _),z9u];rfl
 have a2:(pendingOf st)[i+1]? = some (R1.flatten.length+X.length,Y.length,p2):=by rw[<-z57,e1,<-e3,z5i (by omega),z62];rfl
 refine zht (pre:=R1.flatten) (X:=X) (Y:=Y) (post:=R2.flatten++rest) C R.k R.f rfl a1 a2 (by rw[ea,e2];simp[z48]) (fun x hx=>uT x (R.pm.mem_iff.mp hx)) gX.1 gY.1 gX.2 gY.2 fun Z a' g ez pz mz=>?_;have pl:(((pendingOf st).setIfInBounds i (R1.flatten.length,X.length+Y.length,p1)).eraseIdxIfInBounds (i+1)).toList=Q1++(R1.flatten.length,X.length+Y.length,p1)::Q2:=by
   have l1:i+1<((pendingOf st).setIfInBounds i (R1.flatten.length,X.length+Y.length,p1)).size:=by rw[z94];exact hi
   rw[Array.eraseIdxIfInBounds,dif_pos l1,Array.toList_eraseIdx,z9r,e1,<-e3];rw[List.set_append_right _ _ (z4v _),z9u,List.set_cons_zero,List.eraseIdx_append_of_length_le (by omega),z62];rfl
 have zl:Z.length=X.length+Y.length:=by rw[mz.length_eq,z4t]
 refine⟨rfl,⟨rfl,rfl,?_,R1++Z::R2,?_,?_,?_,fun r hr=>?_⟩,?_⟩
 · refine List.Perm.trans ?_ R.pm;show a'.toList.Perm _;rw[ez,ea,e2];simp only[z8o,List.flatten_cons,z48];refine z7s _ ?_;rw[<-z48 X];exact z7o _ mz
 · show a'.toList=_;rw[ez];simp[z48]
 · show Pm (((pendingOf st).setIfInBounds i (R1.flatten.length,X.length+Y.length,p1)).eraseIdxIfInBounds (i+1)).toList _ 0;rw[pl];exact Pm.app e4 ⟨by rw[z9c],zl.symm,by rw[z9c,zl,<-z7t];exact e5⟩
 · rw[el,e2];simp only[z8o,List.flatten_cons,z4t,zl];omega
 · rcases z5k.mp hr with q | q
   · exact er r (by rw[e2];exact z6a _ q)
   · rcases z46.mp q with rfl | q
     · exact⟨pz,by omega⟩
     · exact er r (by rw[e2];simp[q])
 · show(((pendingOf st).setIfInBounds i (R1.flatten.length,X.length+Y.length,p1)).eraseIdxIfInBounds (i+1)).size+1=_;rw[<-Array.length_toList,pl,<-Array.length_toList,e1];simp only[z4t,List.length_cons];omega
end
section
variable {prog:Program}{w:World}{A:Around}{E:zVP}{s:Shared}{blt:Keyed->Keyed->Bool}{U:Keyed->Prop}{kd:SortKind}{st:SortSt}{T:List Keyed}
theorem zte(C:Cmp prog w A E s kd U blt){a:Array Keyed}{lo n:Nat}(h:Asc blt a lo (lo+n))(hn:lo+n<=a.size):((a.toList.drop lo).take n).Pairwise (le blt):=by
 have e:∀{i} (h:i<a.toList.length),a.toList[i]=ix a i:=fun {i} h=>by rw[Array.length_toList]at h;unfold ix;rw[z5x h];simp
 rw[z6w];intro i j hi hj hij;rw[z49,z5o,Array.length_toList]at hi hj;rw[z7i,z7i,z7j,z7j,e,e];exact C.asy _ _ (h _ _ (by omega) (by omega) (by omega))
theorem zks{a a':Array Keyed}{lo:Nat}(h:Sam lo a a')(hl:lo<=a.size):a'.toList.take lo=a.toList.take lo:=by
 have hs:=h.size;apply List.ext_getElem?;intro i;rw[z9v,z9v];split
 · rename_i hi;rw[z57,z57,zjz (by omega),zjz (by omega),h.ne i hi]
 · rfl
theorem RI.sam{lo:Nat}{rest:List Keyed}{a':Array Keyed}(R:RI blt kd T st lo rest)(h:Sam lo (arrOf st) a'):RI blt kd T (setArr st a') lo (a'.toList.drop lo):=by
 obtain⟨rs,ea,ep,el,er⟩:=R.ex;have hl:lo<=(arrOf st).size:=by rw[<-Array.length_toList,ea,z4t,el];omega
 refine⟨R.k,R.f,h.pm.trans R.pm,rs,?_,ep,el,er⟩;have e1:a'.toList.take lo=rs.flatten:=by rw[zks h hl,ea,el,qah]
 show a'.toList=_;rw[<-e1,z6e]
theorem RI.push{lo n:Nat}{a':Array Keyed}(R:RI blt kd T st lo ((arrOf st).toList.drop lo))(hs:lo+n<=(arrOf st).size)(n0:0<n)(hp:(((arrOf st).toList.drop lo).take n).Pairwise (le blt)):RI blt kd T (setPending st ((pendingOf st).push (lo,n,0))) (lo+n) ((arrOf st).toList.drop (lo+n)):=by
 obtain⟨rs,ea,ep,el,er⟩:=R.ex;have ln:(((arrOf st).toList.drop lo).take n).length=n:=by rw[z49,z5o,Array.length_toList];omega
 refine⟨R.k,R.f,R.pm,rs++[((arrOf st).toList.drop lo).take n],?_,?_,?_,fun r hr=>?_⟩
 · show(arrOf st).toList=_;rw[z8o,z82,z48,<-z89,z6e];exact ea
 · show Pm ((pendingOf st).push (lo,n,0)).toList _ 0;rw[z8j];exact Pm.app ep ⟨by rw[z9c];exact el,ln.symm,trivial⟩
 · rw[z8o,z82,z4t,ln,<-el]
 · rcases z5k.mp hr with q | q
   · exact er r q
   · rw[z43.mp q];exact⟨hp,by omega⟩
theorem RI.pow{lo k pw:Nat}{rest:List Keyed}(R:RI blt kd T st lo rest):RI blt kd T (setPending st ((pendingOf st).modify k fun(x:Nat×Nat×Nat)=>(x.1,x.2.1,pw))) lo rest:=by obtain⟨rs,ea,ep,el,er⟩:=R.ex;refine⟨R.k,R.f,R.pm,rs,ea,?_,el,er⟩;show Pm ((pendingOf st).modify k _).toList rs 0;rw[Array.toList_modify];exact Pm.pow pw ep
theorem RI.small{lo:Nat}{rest:List Keyed}(R:RI blt kd T st lo rest):(pendingOf st).size<=lo:=by
 obtain⟨rs,ea,ep,el,er⟩:=R.ex;rw[<-Array.length_toList,ep.len,el];clear ea ep el
 induction rs with
 |nil=>simp
 | cons r rs ih=>
   have:=ih fun x hx=>er x (z40 _ hx);have:=(er r (z5c ..)).2;rw[List.length_cons,List.flatten_cons,z4t];omega
theorem RI.fin(R:RI blt kd T st T.length [])(hp:(pendingOf st).size<=1):(arrOf st).toList.Pairwise (le blt):=by
 obtain⟨rs,ea,ep,el,er⟩:=R.ex;rw[<-Array.length_toList,ep.len]at hp;rw[ea,z5q]
 match rs,hp,er with
 | [],_,_=>exact List.Pairwise.nil
 | [r],_,er=>rw[z82];exact(er r (z5c ..)).1
theorem RI.rest{lo:Nat}{rest:List Keyed}(R:RI blt kd T st lo rest):(arrOf st).toList.drop lo=rest:=by obtain⟨rs,ea,ep,el,er⟩:=R.ex;rw[ea,el,z90]
theorem zi6{n:Nat}(h:1<n):n-2+1<n:=by omega
theorem ze9(C:Cmp prog w A E s kd U blt)(hk:kindOf st=kd)(hf:failedOf st=none)(hp:pendingOf st=#[])(uT:∀x∈(arrOf st).toList,U x)(hd:(arrOf st).toList.Pairwise fun x y=>blt x y=true\/blt y x=true){Q:Unit->SortSt->Prop}
   (h:∀st',(arrOf st').toList.Perm (arrOf st).toList->failedOf st'=none->(arrOf st').toList.Pairwise (le blt)->Q () st'):wpS (model prog w) A E s sortRuns' Q st:=by
 have tl:(arrOf st).toList.length=(arrOf st).size:=Array.length_toList;rw[sortRuns'_eq];refine z41 (z9n ?_);dsimp only;generalize hT:(arrOf st).toList=T at *;generalize hz:(arrOf st).size=sz at *;generalize minRun' sz sz 0=mr;have R0:RI blt kd T st 0 ((arrOf st).toList.drop 0):=⟨hk,hf,by rw[hT],[],by rw[z78];rfl,by rw[hp];trivial,rfl,fun r hr=>by cases hr⟩
 refine z41 (z6x (z6k
   (I:=fun x c st'=>∃lo,c=(none,lo)/\lo<=sz/\(x<=lo\/lo=sz)/\RI blt kd T st' lo ((arrOf st').toList.drop lo))
   (Q:=fun c st'=>c=(none,sz)/\RI blt kd T st' sz ((arrOf st').toList.drop sz)) ?step ?fin ⟨0,rfl,z5y _,.inl (z4v _),R0⟩) ?post)
 case fin=>
   rintro c st' ⟨lo,rfl,l1,l2,R⟩;have:lo=sz:=by omega
   subst this;exact⟨rfl,R⟩
 case step=>
   rintro x c st' _ hx ⟨lo,rfl,l1,l2,R⟩;dsimp only;by_cases e0:lo ≥ sz
   · rw[z5g e0];cases z7z l1 e0;exact z5b ⟨rfl,R⟩
   · rw[z5n e0];have xl:x<=lo:=l2.resolve_right fun q=>e0 (q▸z4v _);clear hx l2;have zs:(arrOf st').size=sz:=by rw[<-tl,<-Array.length_toList];exact R.pm.length_eq
     have u':∀x∈(arrOf st').toList,U x:=fun x hx=>uT x (R.pm.mem_iff.mp hx);have d':(arrOf st').toList.Pairwise fun x y=>blt x y=true\/blt y x=true:=(R.pm.pairwise_iff (fun {x y} q=>q.symm)).mpr hd;refine z41 (zfb C R.k u' d' (nrem:=sz-lo) (by rw[zs];exact z8n l1) (z95 (Nat.lt_of_not_le e0)) fun n a1 n1 n2 sm ac=>?_);dsimp only;have za:=sm.size;have R1:=R.sam sm;by_cases e1:n<mr
     · rw[z5g e1];refine z41 (za3 ?_);have m0:0<min (sz-lo) mr:=Nat.le_min.mpr ⟨z5j n1 n2,z5j n1 (z6u e1)⟩;have m1:lo+min (sz-lo) mr<=sz:=Nat.add_le_of_le_sub' l1 (qac ..);refine z41 (zc4 (st:=setArr st' a1) (n:=min (sz-lo) mr) (ok:=n) C R.k (fun x hx=>u' x (sm.pm.mem_iff.mp hx)) (Dis.of d' sm) (by show lo+min (sz-lo) mr<=a1.size;rw[za,zs];exact m1) n1 (Nat.le_min.mpr ⟨n2,z6u e1⟩) ac fun a2 s2 c2=>?_);simp only[z7f,z47,z6b];have RR:=R.sam (sm.trans s2);have hp:=zte C c2 (show lo+min (sz-lo) mr<=a2.size from by rw[(sm.trans s2).size,zs];exact m1);have last:∀{st2:SortSt},RI blt kd T st2 lo (a2.toList.drop lo)->RI blt kd T (setPending st2 ((pendingOf st2).push (lo,min (sz-lo) mr,0))) (lo+min (sz-lo) mr) ((arrOf (setPending st2 ((pendingOf st2).push (lo,min (sz-lo) mr,0)))).toList.drop (lo+min (sz-lo) mr)):=fun {st2} R2=>by
         have e:=R2.rest;have z2:(arrOf st2).size=sz:=by rw[<-tl,<-Array.length_toList];exact R2.pm.length_eq
         have R3:RI blt kd T st2 lo ((arrOf st2).toList.drop lo):=by rw[e];exact R2
         exact R3.push (a':=#[]) (by rw[z2];exact m1) m0 (by rw[e];exact hp)
       refine z41 (z9n ?_);split
       · rename_i s1 n1 q heq;refine z41 (z6x (z6k (I:=fun x c st2=>c.1=none/\RI blt kd T st2 lo (a2.toList.drop lo)) (Q:=fun c st2=>c.1=none/\RI blt kd T st2 lo (a2.toList.drop lo)) ?_ (fun c st2 hh=>hh) ⟨rfl,RR⟩) ?_)
         · rintro x c st2 _ _ ⟨_,R2⟩;refine z41 (z9n ?_);by_cases g:(pendingOf st2).size>1
           · rw[z5g g];have gi:(pendingOf st2).size-2<(pendingOf st2).size:=Nat.lt_of_succ_lt (zi6 g);rw[z5x gi];dsimp only;split
             · exact z5b ⟨rfl,R2⟩
             · refine z41 (z6x (zb8 C uT R2 (zi6 g)) fun b st3 hb=>?_);obtain⟨rfl,R3,_⟩:=hb;simp only[z7f,z47,z6b];exact z5b ⟨rfl,R3⟩
           · rw[z5n g];exact z5b ⟨rfl,R2⟩
         · rintro c st2 ⟨hc,R2⟩;rw[hc];dsimp only;refine z41 (z76 ?_);refine z41 (z76 ?_);exact z5b ⟨_,rfl,m1,.inl (z91 xl m0),last (st2:=setPending st2 ((pendingOf st2).modify ((pendingOf st2).size-1) fun x=>(x.fst,x.2.fst,power' sz (2*s1+n1) (2*s1+n1+n1+min (sz-lo) mr) sz))) R2.pow⟩
       · refine z41 (z76 ?_);exact z5b ⟨_,rfl,m1,.inl (z91 xl m0),last RR⟩
     · rw[z5n e1];have m0:0<n:=n1;have m1:lo+n<=sz:=Nat.add_le_of_le_sub' l1 n2;have RR:=R.sam sm;have hp:=zte C ac (show lo+n<=a1.size from by rw[za,zs];exact m1);have last:∀{st2:SortSt},RI blt kd T st2 lo (a1.toList.drop lo)->RI blt kd T (setPending st2 ((pendingOf st2).push (lo,n,0))) (lo+n) ((arrOf (setPending st2 ((pendingOf st2).push (lo,n,0)))).toList.drop (lo+n)):=fun {st2} R2=>by
         have e:=R2.rest;have z2:(arrOf st2).size=sz:=by rw[<-tl,<-Array.length_toList];exact R2.pm.length_eq
         have R3:RI blt kd T st2 lo ((arrOf st2).toList.drop lo):=by rw[e];exact R2
         exact R3.push (a':=#[]) (by rw[z2];exact m1) m0 (by rw[e];exact hp)
       refine z41 (z9n ?_);split
       · rename_i s1 n1 q heq;refine z41 (z6x (z6k (I:=fun x c st2=>c.1=none/\RI blt kd T st2 lo (a1.toList.drop lo)) (Q:=fun c st2=>c.1=none/\RI blt kd T st2 lo (a1.toList.drop lo)) ?_ (fun c st2 hh=>hh) ⟨rfl,RR⟩) ?_)
         · rintro x c st2 _ _ ⟨_,R2⟩;refine z41 (z9n ?_);by_cases g:(pendingOf st2).size>1
           · rw[z5g g];have gi:(pendingOf st2).size-2<(pendingOf st2).size:=Nat.lt_of_succ_lt (zi6 g);rw[z5x gi];dsimp only;split
             · exact z5b ⟨rfl,R2⟩
             · refine z41 (z6x (zb8 C uT R2 (zi6 g)) fun b st3 hb=>?_);obtain⟨rfl,R3,_⟩:=hb;simp only[z7f,z47,z6b];exact z5b ⟨rfl,R3⟩
           · rw[z5n g];exact z5b ⟨rfl,R2⟩
         · rintro c st2 ⟨hc,R2⟩;rw[hc];dsimp only;refine z41 (z76 ?_);refine z41 (z76 ?_);exact z5b ⟨_,rfl,m1,.inl (z91 xl m0),last (st2:=setPending st2 ((pendingOf st2).modify ((pendingOf st2).size-1) fun x=>(x.fst,x.2.fst,power' sz (2*s1+n1) (2*s1+n1+n1+n) sz))) R2.pow⟩
       · refine z41 (z76 ?_);exact z5b ⟨_,rfl,m1,.inl (z91 xl m0),last RR⟩
 case post=>
   rintro c st' ⟨rfl,R⟩;dsimp only;have e:(arrOf st').toList.drop sz=[]:=z6l (by rw[R.pm.length_eq,tl];exact z4v _);rw[e]at R;have sm:=R.small;refine z41 (z6x (z6k (I:=fun x c st2=>c.1=none/\RI blt kd T st2 sz []/\((pendingOf st2).size+x<=sz+1\/(pendingOf st2).size<=1)) (Q:=fun c st2=>c.1=none/\RI blt kd T st2 sz []/\(pendingOf st2).size<=1) ?_ ?_ ⟨rfl,R,.inl (by omega)⟩) ?_)
   · rintro x c st2 _ hx ⟨_,R2,p2⟩;refine z41 (z9n ?_);by_cases g:(pendingOf st2).size<=1
     · rw[z5g g];exact z5b ⟨rfl,R2,g⟩
     · rw[z5n g];refine z41 (z6x (zb8 C uT R2 ?_) fun b st3 hb=>?_)
       · have any:∀(q:Bool),(if q=true then (pendingOf st2).size-2-1 else (pendingOf st2).size-2)+1<(pendingOf st2).size:=fun q=>by cases q<;>simp<;>omega
         exact any _
       · obtain⟨rfl,R3,z3⟩:=hb;simp only[z7f,z47,z6b];exact z5b ⟨rfl,R3,by omega⟩
   · rintro c st2 ⟨hc,R2,p2⟩;refine⟨hc,R2,?_⟩;rcases p2 with p2 | p2
     · have:max 0 sz=sz:=by omega
       omega
     · exact p2
   · rintro c st2 ⟨hc,R2,p2⟩;have R3:RI blt kd T st2 T.length []:=by rw[tl];exact R2
     have:=h st2 R2.pm R2.f (R3.fin p2);rw[hc];exact z5b this
end
def nums(z:Str):List Int:=z.cps.toList.map Int.ofNat
theorem map_lt:∀(x y:List Nat),(x.map Int.ofNat<y.map Int.ofNat)↔x<y
 | [],[]=>by simp
 | [],_::_=>by simp
 |_::_,[]=>by simp
 | a::x,b::y=>by
   rw[z5a,z5a,z6f,z6f,map_lt x y];constructor
   · rintro(h | ⟨h,h'⟩)
     · exact .inl (qad.mp h)
     · exact .inr ⟨Int.ofNat.inj h,h'⟩
   · rintro(h | ⟨h,h'⟩)
     · exact .inl (qad.mpr h)
     · exact .inr ⟨z64 Int.ofNat h,h'⟩
def bk(kc:Keyed->List Int)(x y:Keyed):Bool:=decide (kc x<kc y)
section
variable {prog:Program}{w:World}{A:Around}{E:zVP}{s:Shared}{kd:SortKind}{U:Keyed->Prop}{kc:Keyed->List Int}
theorem zkh(h:∀x y,U x->U y->∀(E':zVP) (Q:Bool->Shared->Prop),Q (bk kc x y) s->wpAny (model prog w) A (keyLt' kd x.1 y.1) Q E' s):Cmp prog w A E s kd U (bk kc) where
 lt:=fun x y hx hy st Q hk hq=>by rw[lt'_eq];refine z41 (z9n ?_);rw[hk];refine z41 (wpS_lift (z9h ?_));refine h x y hx hy _ _ ?_;exact⟨rfl,z5b hq⟩
 asy:=fun x y hx=>by simp only[bk,decide_eq_true_eq,z72]at *;exact List.lt_asymm hx
 tr:=fun x y z h1 h2=>by simp only[bk,z72]at *;exact z6t.mpr (List.le_trans (z6t.mp h1) (z6t.mp h2))
theorem zla{a b:Int}{t u:Tok}{Q:Bool->Shared->Prop}(h:Q (decide (a<b)) s):wpAny (model prog w) A (oneLt' false (.int a t) (.int b u)) Q E s:=by rw[oneLt'_eq];simp only[z47,z6b];refine z4u (wpAny_richCompare_same (op:=.Lt) (typeIs_int s a t) (typeIs_int s b u) slot_int_lt (call_int_lt ⟨by simp,?_⟩));exact z6c h
theorem zk9{a b:Str}{t u:Tok}{Q:Bool->Shared->Prop}(h:Q (decide (a.cps.toList<b.cps.toList)) s):wpAny (model prog w) A (oneLt' false (.str a t) (.str b u)) Q E s:=by rw[oneLt'_eq];simp only[z47,z6b];refine z4u (wpAny_richCompare_same (op:=.Lt) (typeIs_str s a t) (typeIs_str s b u) slot_str_lt (call_str_lt ⟨by simp,?_⟩));exact z6c h
theorem cmp_int(hU:∀x,U x->∃n t,x.1=.int n t/\kc x=[n]):Cmp prog w A E s oneType' U (bk kc):=zkh fun x y hx hy E' Q hq=>by
 obtain⟨n,t,e,k⟩:=hU x hx;obtain⟨m,u,e',k'⟩:=hU y hy;rw[e,e',keyLt'_oneType];refine oneLt_int ?_;have:bk kc x y=decide (n<m):=by unfold bk;rw[k,k',z6i,z6f];simp
 rw[<-this];exact hq
theorem cmp_str(hU:∀x,U x->∃z t,x.1=.str z t/\kc x=nums z):Cmp prog w A E s oneType' U (bk kc):=zkh fun x y hx hy E' Q hq=>by
 obtain⟨n,t,e,k⟩:=hU x hx;obtain⟨m,u,e',k'⟩:=hU y hy;rw[e,e',keyLt'_oneType];refine oneLt_str ?_;have:bk kc x y=decide (n.cps.toList<m.cps.toList):=by unfold bk;rw[k,k',z6i];exact map_lt _ _
 rw[<-this];exact hq
theorem zlf(fl:Bool)(x y:Value):keyLt' (tuples' fl) x y=(do
   let xs <-Builtin.List.listItems x;let ys <-Builtin.List.listItems y
   for ((p,q),i)in (xs.toList.zip ys.toList).zipIdx do
     if !(<-eqBool p q)then return <-oneLt' (fl&&i==0) p q
   return xs.size<ys.size):=rfl
theorem zew{p q:Addr}{o o':Obj}{n n':Nat}{a b:Int}{t u:Tok}{v v':Value}{Q:Bool->Shared->Prop}(ho:s.heap.get? p=some o)(hd:o.data=.seq #[.int a t,v] n)(ho':s.heap.get? q=some o')(hd':o'.data=.seq #[.int b u,v'] n')
   {eq lt:Bool} (he:∀Q:Bool->Shared->Prop,Q eq s->wpAny (model prog w) A (eqBool v v') Q E s) (hl:∀Q:Bool->Shared->Prop,Q lt s->wpAny (model prog w) A (oneLt' false v v') Q E s) (h:Q (if a=b then !eq&&lt else decide (a<b)) s):wpAny (model prog w) A (keyLt' (tuples' true) (.ref p) (.ref q)) Q E s:=by
 rw[zlf];refine z4u (z9w ho hd ?_);refine z4u (z9w ho' hd' ?_);have e0:((#[Value.int a t,v].toList.zip #[Value.int b u,v'].toList).zipIdx)=[((Value.int a t,Value.int b u),0),((v,v'),1)]:=rfl;rw[e0,z8a];simp only[bind_assoc];refine z4u (wpAny_eqBool_int ?_);by_cases ab:a=b
 · rw[z5g ab]at h;have e1:(a==b)=true:=by simpa using ab
   rw[e1];simp only[z7f,z47,z6b,pure_bind];rw[z8a];simp only[bind_assoc];refine z4u (he _ ?_);cases eq
   · simp only[qag,z6s,bind_assoc,pure_bind,Bool.true_and]at h ⊢;exact z4u (hl _ (z5e h))
   · simp only[z7f,z47,z6b,pure_bind,List.forIn_nil,z9x]at h ⊢;exact z5e h
 · rw[z5n ab]at h;have e1:(a==b)=false:=by simpa using ab
   rw[e1];simp only[qag,z6s,bind_assoc,pure_bind];exact z4u (oneLt_int (z5e h))
theorem cmp_ii(hU:∀x,U x->∃p o n a t b u,x.1=.ref p/\s.heap.get? p=some o/\o.data=.seq #[.int a t,.int b u] n/\kc x=[a,b]):Cmp prog w A E s (tuples' true) U (bk kc):=zkh fun x y hx hy E' Q hq=>by
 obtain⟨p,o,n,a,t,b,u,e,ho,hd,k⟩:=hU x hx;obtain⟨p',o',n',a',t',b',u',e',ho',hd',k'⟩:=hU y hy;rw[e,e'];refine zew ho hd ho' hd' (eq:=b==b') (lt:=decide (b<b')) (fun Q h=>wpAny_eqBool_int h) (fun Q h=>zla h) ?_;have:bk kc x y=(if a=a' then !(b==b')&&decide (b<b')else decide (a<a')):=by
   unfold bk;rw[k,k',<-Bool.decide_coe (if a=a' then _ else _),z6i,z6f,z6f];by_cases h1:a=a'
   · rw[z5g h1];subst h1;simp;omega
   · rw[z5n h1];simp[h1]
 rw[<-this];exact hq
theorem cmp_is(hU:∀x,U x->∃p o n a t b u,x.1=.ref p/\s.heap.get? p=some o/\o.data=.seq #[.int a t,.str b u] n/\kc x=a::nums b):Cmp prog w A E s (tuples' true) U (bk kc):=zkh fun x y hx hy E' Q hq=>by
 obtain⟨p,o,n,a,t,b,u,e,ho,hd,k⟩:=hU x hx;obtain⟨p',o',n',a',t',b',u',e',ho',hd',k'⟩:=hU y hy;rw[e,e'];refine zew ho hd ho' hd' (eq:=decide (b=b')) (lt:=decide (b.cps.toList<b'.cps.toList)) (fun Q h=>wpAny_eqBool_str h) (fun Q h=>zk9 h) ?_;have:bk kc x y=(if a=a' then !(decide (b=b'))&&decide (b.cps.toList<b'.cps.toList)else decide (a<a')):=by
   unfold bk;rw[k,k',<-Bool.decide_coe (if a=a' then _ else _),z6i,z6f];by_cases h1:a=a'
   · rw[z5g h1];subst h1;have:(nums b<nums b')↔b.cps.toList<b'.cps.toList:=map_lt _ _;simp[this];rintro h2 rfl;exact z9a _ h2
   · rw[z5n h1];simp[h1]
 rw[<-this];exact hq
end
end Srt
namespace Srt
open PySem PyProof.Rows
open Builtin.List (listItems listUpdate)
theorem kk1:((("key":Str) != ("key":Str))&&(("key":Str) != ("reverse":Str)))=false:=by decide +kernel
theorem kk2{v:Value}:List.lookup ("key":Str) [(("key":Str),v)]=some v:=by simp[List.lookup]
theorem kk3{v:Value}:List.lookup ("reverse":Str) [(("key":Str),v)]=none:=by
 have:(("reverse":Str)==("key":Str))=false:=by decide +kernel
 simp[List.lookup,this]
def keysLoop(a:Addr)(items:Array Value)(kf keyStore:Value):Sem PUnit :=
 forIn items PUnit.unit fun x __s=>do
   let __do_lift <-(call kf [x]).attempt
   match __do_lift with
   | Except.ok k=>do
     listUpdate keyStore fun x=>x.push k
     pure (ForInStep.yield PUnit.unit)
   | Except.error e=>do
     rule "list.sort.key-raised"
     let made <-listItems keyStore
     listUpdate keyStore fun x=>#[]
     letGo made.toList.reverse [e]
     listUpdate (Value.ref a) fun x=>items
     throw (α:=Unit) e
     pure (ForInStep.yield PUnit.unit)
theorem zfp (a:Addr) (kf:Value) (hn:(kf != Value.none)=true):Builtin.«list.sort» ⟨[.ref a],[("key",kf)]⟩=(do
   let items <-listItems (.ref a)
   listUpdate (.ref a) fun _=>#[]
   let before <-seqEpoch a
   let held <-newTuple items.toList
   let keyStore <-newList []
   holding [held,keyStore] do
     rule "list.sort.key"
     keysLoop a items kf keyStore
     let keys <-listItems keyStore
     let kind <-if items.size<2 then pure general' else keyKind' keys
     let((),s) <-(if items.size<2 then pure ()else sortRuns').run (SortSt.mk' kind (keys.zip items) #[] 7 none)
     let sorted:=(arrOf s).map (·.2)
     listUpdate keyStore fun _=>#[]
     letGo ((arrOf s).map (·.1)).toList (failedOf s).toList
     let touched:=(<-seqEpoch a) != before
     listUpdate (.ref a) fun _=>sorted
     if let some e:=failedOf s then rule "list.sort.comparison-raised";throw e
     if touched then rule "list.sort.modified";raiseError "ValueError" "list modified during sort"
     ret .none):=by
 unfold Builtin.«list.sort»;have n2:¬ (0+(0+1)>2):=by decide
 simp only[List.length_nil,List.length_cons,List.isEmpty_nil,kk2,kk3,Option.getD_some,hn,z5n n2,z8a,List.forIn_nil,kk1,pure_bind,bind_assoc,z6s,z6b,z47,z7f];rfl
section
variable {prog:Program}{w:World}{A:Around}{E:zVP}{s:Shared}
def askHeap(h:Heap)(a:Addr)(vs:List Value):Heap:=((h.update a (Obj.mapSeq fun _=>#[])).push (seqObj "tuple" vs.toArray 0)).push (seqObj "list" #[] 0)
structure Keyd (prog:Program) (w:World) (A:Around) (E:zVP) (a k:Addr) (e1:Nat) (vs:List Value) (P:Fin->Shared->Prop) (s2:Shared):Prop where
 ex:∃(keys:List Value) (m:Nat) (kd:SortKind) (U:Keyed->Prop) (kc:Keyed->List Int),s2.heap.get? k=some (seqObj "list" keys.toArray m)/\s2.heap.get? a=some (seqObj "list" #[] e1)/\keys.length=vs.length /\
   (2<=vs.length->wpAny (model prog w) A (keyKind' keys.toArray) (fun kd' s'=>s'=s2/\kd'=kd) E s2)/\Cmp prog w A E s2 kd U (bk kc)/\(∀x∈keys.zip vs,U x)/\(keys.zip vs).Pairwise (fun x y=>kc x≠kc y) /\
   ∀out:List Keyed,out.Perm (keys.zip vs)->out.Pairwise (fun x y=>¬ kc y<kc x)->P (.done (.ret .none)) { s2 with heap:=(s2.heap.update k (Obj.mapSeq fun _=>#[])).update a (Obj.mapSeq fun _=>(out.map (·.2)).toArray) }
theorem zdg{a:Addr}{vs:List Value}{n:Nat}{kf:Value}{P:Fin->Shared->Prop}(hn:(kf != Value.none)=true)(ho:s.heap.get? a=some (seqObj "list" vs.toArray n))(hl:vs.length<=100000)
   (h:∀e1,(askHeap s.heap a vs).get? a=some (seqObj "list" #[] e1)->wpAny (model prog w) A (keysLoop a vs.toArray kf (.ref (s.heap.objs.size+1))) (fun _ s2=>Keyd prog w A E a (s.heap.objs.size+1) e1 vs P s2) E { s with heap:=askHeap s.heap a vs }) :
   wpAny (model prog w) A (Builtin.«list.sort» ⟨[.ref a],[("key",kf)]⟩) P E s:=by
 rw[zfp a kf hn];have ha:a<s.heap.objs.size:=z5f ho;refine z4u (z9w ho rfl ?_);refine z4u (listUpdate_at ho rfl ?_);obtain⟨e1,ho1⟩:∃e1,(s.heap.update a (Obj.mapSeq fun _=>#[])).get? a=some (seqObj "list" #[] e1):=⟨_,get?_update_seq ho (fun _=>#[])⟩
 refine z4u (seqEpoch_at ho1 rfl ?_);refine z4u (wpAny_newTuple ?_);refine z4u (wpAny_newList ?_);refine wpAny_holding ?_;have ho6:(askHeap s.heap a vs).get? a=some (seqObj "list" #[] e1):=by unfold askHeap;rw[Heap.get?_push_ne _ _ _ (by rw[z96,z75];exact z5h (z8i ha)),Heap.get?_push_ne _ _ _ (by rw[z75];exact z5h ha)];exact ho1
 have hk:((s.heap.update a (Obj.mapSeq fun _=>#[])).push (seqObj "tuple" vs.toArray 0)).objs.size=s.heap.objs.size+1:=by rw[z96,z75]
 dsimp only;rw[hk];refine z4u (wpAny_rule ?_);refine z4u (z69 (h e1 ho6) (fun _ s2 hs2=>?_) fun _ _ e=>e);obtain⟨keys,m,kd,U,kc,gk,ga,lk,hkk,C,hU,hd,fin⟩:=hs2.ex;have ka:a≠s.heap.objs.size+1:=z5h (z8i ha);refine z4u (z9w gk rfl ?_);have vsz:vs.toArray.size=vs.length:=by simp
 have zl:(keys.toArray.zip vs.toArray).toList=keys.zip vs:=by simp
 have sz2:(keys.zip vs).length=vs.length:=by rw[List.length_zip,lk,Nat.min_self]
 have done:∀st:SortSt,failedOf st=none->(arrOf st).toList.Perm (keys.zip vs)->(arrOf st).toList.Pairwise (fun x y=>¬ kc y<kc x)->wpAny (model prog w) A (do
     listUpdate (.ref (s.heap.objs.size+1)) fun _=>#[]
     letGo ((arrOf st).map (·.1)).toList (failedOf st).toList
     let touched:=(<-seqEpoch a) != e1
     listUpdate (.ref a) fun _=>(arrOf st).map (·.2)
     if let some e:=failedOf st then rule "list.sort.comparison-raised";throw e
     if touched then rule "list.sort.modified";raiseError "ValueError" "list modified during sort"
     ret .none) P E s2:=by
   intro st hf hp hs;refine z4u (listUpdate_at gk rfl ?_);refine z4u (wpAny_letGo ?_);have ga2:(s2.heap.update (s.heap.objs.size+1) (Obj.mapSeq fun _=>#[])).get? a=some (seqObj "list" #[] e1):=by rw[z66 _ _ _ _ ka];exact ga
   refine z4u (seqEpoch_at ga2 rfl ?_);refine z4u (listUpdate_at ga2 rfl ?_ (hsz2:=by
     show((arrOf st).map (·.2)).size<=_;rw[Array.size_map,<-Array.length_toList,hp.length_eq,sz2,z6p];omega))
   rw[hf];simp only[bne_self_eq_false,z47,z6b];have:=fin (arrOf st).toList hp hs;have e:((arrOf st).toList.map (·.2)).toArray=(arrOf st).map (·.2):=by rw[<-Array.toList_map,Array.toArray_toList]
   rw[e]at this;exact z5e this
 by_cases h2:vs.toArray.size<2
 · rw[z5g h2,z5g h2];refine z4u (z5e ?_);rw[StateT.run_pure];refine z4u (z5e ?_);refine done (SortSt.mk' general' (keys.toArray.zip vs.toArray) #[] 7 none) rfl (by show(keys.toArray.zip vs.toArray).toList.Perm _;rw[zl]) ?_;show(keys.toArray.zip vs.toArray).toList.Pairwise _;rw[zl]
   match hz:keys.zip vs,sz2 with
   | [],_=>exact List.Pairwise.nil
   | [x],_=>exact z7g _ _
   |x::y::r,e=>rw[vsz]at h2;simp at e;omega
 · rw[z5n h2,z5n h2];refine z4u (z69 (hkk (by rw[vsz]at h2;omega)) (fun kd' s' hs'=>?_) fun _ _ e=>e);obtain⟨rfl,rfl⟩:=hs';refine z4u (z69 (ze9 (st:=SortSt.mk' kd' (keys.toArray.zip vs.toArray) #[] 7 none) C rfl rfl rfl (fun x hx=>hU x (by rw[<-zl];exact hx)) ?_ (Q:=fun _ st'=>(arrOf st').toList.Perm (keys.toArray.zip vs.toArray).toList/\failedOf st'=none/\(arrOf st').toList.Pairwise (le (bk kc))) fun st' a1 a2 a3=>⟨a1,a2,a3⟩) ?_ fun _ _ e=>e)
   · show(keys.toArray.zip vs.toArray).toList.Pairwise _;rw[zl];refine hd.imp fun {x y} hxy=>?_;simp only[bk,decide_eq_true_eq];by_cases q:kc x<kc y
     · exact .inl q
     · right
       by_cases q2:kc y<kc x
       · exact q2
       · exact absurd (z9f (z6t.mp q2) (z6t.mp q)) hxy
   · rintro⟨⟨⟩,st'⟩ s3 ⟨rfl,hp,hf,hs⟩;refine done st' hf (by rw[zl]at hp;exact hp) (hs.imp fun {x y} q=>?_);simpa [le,bk] using q
end
theorem zd9(a k:Value):argsOk "sorted" ⟨[a],[(("key":Str),k)]⟩:=by unfold argsOk;kernel_rfl
theorem zb5(a k:Value):argsOk "list.sort" ⟨[a],[(("key":Str),k)]⟩:=by unfold argsOk;kernel_rfl
section
variable {prog:Program}{w:World}{A:Around}{E:zVP}{s:Shared}
def colHeap(h:Heap)(vs:List Value):Heap:=((h.push (seqObj "list" #[] 0)).update h.objs.size (Obj.mapSeq (·++vs.toArray))).push (seqObj "list" vs.toArray 0)
theorem col_size(h:Heap)(vs:List Value):(colHeap h vs).objs.size=h.objs.size+2:=by unfold colHeap;rw[z96,z75,z96]
theorem sorted_key{l:Addr}{vs:List Value}{kf:Value}{Q:zVP}(hl:s.heap.IsList l vs.toArray)(hn:(kf != Value.none)=true)(hv:vs.length<=100000)
   (h:∀e1,(askHeap (colHeap s.heap vs) (s.heap.objs.size+1) vs).get? (s.heap.objs.size+1)=some (seqObj "list" #[] e1) ->
     wpAny (model prog w) A.in1.in1 (keysLoop (s.heap.objs.size+1) vs.toArray kf (.ref (s.heap.objs.size+3))) (fun _ s2=>Keyd prog w A.in1.in1 E (s.heap.objs.size+1) (s.heap.objs.size+3) e1 vs (fun fin s'=>fin=.done (.ret .none)->Q (.ref (s.heap.objs.size+1)) s') s2) E { s with heap:=askHeap (colHeap s.heap vs) (s.heap.objs.size+1) vs }) :
   wpAny (model prog w) A (call (.builtin "sorted") [.ref l] [(("key":Str),kf)]) Q E s:=by
 refine call_function_entry_kw kind_sorted plain_sorted entry_sorted (zd9 _ _) ?_;unfold Builtin.«sorted»;refine z4u (m:=checkCount "sorted" 1 1 _) (z5e ?_);have hz:=z6p;refine z4u (collect_list hl ?_ (by omega));refine z4u (wpAny_newList ?_);have hsz:((s.heap.push (seqObj "list" #[] 0)).update s.heap.objs.size (Obj.mapSeq (·++vs.toArray))).objs.size=s.heap.objs.size+1:=by rw[z75,z96]
 have hoL:(colHeap s.heap vs).get? (s.heap.objs.size+1)=some (seqObj "list" vs.toArray 0):=by unfold colHeap;rw[<-hsz];exact z5s _ rfl
 show wpAny _ _ _ _ _ { s with heap:=colHeap s.heap vs };rw[hsz];have cs:(colHeap s.heap vs).objs.size+1=s.heap.objs.size+3:=by rw[col_size]
 refine z4u (wpAny_holding (wpAny_call_entry_kw slot_list_sort ⟨_,hoL,rfl⟩ entry_list_sort (z69 (zdg (s:={ s with heap:=colHeap s.heap vs }) (P:=fun fin s'=>fin=.done (.ret .none)/\Q (.ref (s.heap.objs.size+1)) s') hn hoL hv fun e1 he=>?_) (fun fin s' hf=>⟨.none,hf.1,z5e ⟨_,rfl,hf.2⟩⟩) fun _ _ e=>e) (zb5 _ _)));show wpAny _ _ (keysLoop _ _ _ (.ref ((colHeap s.heap vs).objs.size+1))) _ _ _;rw[cs];refine z69 (h e1 he) (fun _ s2 k2=>?_) fun _ _ e=>e;obtain⟨keys,m,kd,U,kc,b1,b2,b3,b4,b5,b6,b7,b8⟩:=k2.ex;exact⟨keys,m,kd,U,kc,b1,b2,b3,b4,b5,b6,b7,fun out o1 o2=>⟨rfl,b8 out o1 o2 rfl⟩⟩
end
theorem zcs(v:Value):firstOfTuple' v=(do
 if(<-typeOf v) != .type "tuple" then return none
 return(<-listItems v)[0]?):=rfl
section
variable {prog:Program}{w:World}{A:Around}{E:zVP}{s:Shared}
def z2u(s:Shared)(v:Value):Prop:=∃p o n a t e,v=.ref p/\s.heap.get? p=some o/\o.cls=.type "tuple"/\o.data=.seq #[.int a t,e] n
theorem zod{v:Value}(h:z2u s v){Q:Option Value->Shared->Prop}(hq:∀a t,Q (some (.int a t)) s):wpAny (model prog w) A (firstOfTuple' v) Q E s:=by
 obtain⟨p,o,n,a,t,e,rfl,ho,hc,hd⟩:=h;rw[zcs];refine z4u (wpAny_typeOf (T:="tuple") ⟨o,ho,hc⟩ ?_);have:(Value.type "tuple" != Value.type "tuple")=false:=by rfl
 rw[this];simp only[z47,z6b];refine z4u (z9w ho hd ?_);exact z5e (hq a t)
theorem zbc:∀{vs:List Value},(∀v∈vs,z2u s v)->∀{Q:List (Option Value)->Shared->Prop},(∀fs:List Value,(∀f∈fs,∃a t,f=.int a t)->fs.length=vs.length->Q (fs.map some) s)->wpAny (model prog w) A (vs.mapM firstOfTuple') Q E s
 | [],_,Q,h=>by rw[List.mapM_nil];exact z5e (h [] (fun f hf=>by cases hf) rfl)
 | v::vs,hv,Q,h=>by
   rw[List.mapM_cons];refine z4u (zod (hv v (z5c ..)) fun a t=>?_);refine z4u (zbc (fun u hu=>hv u (z40 _ hu)) fun fs hf hl=>?_);refine z5e (h (.int a t::fs) (fun f hf'=>?_) (by simp[hl]));rcases z46.mp hf' with rfl | hf'
   · exact⟨a,t,rfl⟩
   · exact hf f hf'
theorem zbu:∀{fs:List Value},(∀f∈fs,∃a t,f=.int a t)->fs.mapM typeOf=(pure (fs.map fun _=>Value.type "int"):Sem (List Value))
 | [],_=>by simp
 | f::fs,h=>by obtain⟨a,t,rfl⟩:=h f (z5c ..);rw[List.mapM_cons,zbu fun u hu=>h u (z40 _ hu)];show(pure (Value.type "int") >>= fun b=>pure _ >>= fun bs=>pure (b::bs))=_;simp
theorem keyKind_tup{keys:List Value}(h0:keys≠[])(hf:∀v∈keys,z2u s v):wpAny (model prog w) A (keyKind' keys.toArray) (fun kd s'=>s'=s/\kd=tuples' true) E s:=by
 rw[keyKind'_eq,List.mapM_toArray];simp only[map_eq_pure_bind,bind_assoc,pure_bind];refine z4u (zbc hf fun fs h1 h2=>?_);have e1:(fs.map some).toArray.all (·.isSome)=true:=by simp
 rw[z5g e1];refine z4u (wpAny_rule ?_);have e2:(fs.map some).toArray.filterMap id=fs.toArray:=by simp
 rw[e2,oneTypeOnly'_eq,List.mapM_toArray,zbu h1];cases fs with
 |nil=>exact absurd (List.length_eq_zero_iff.mp h2.symm) h0
 | cons f fs=>
   simp only[map_pure,pure_bind,z5a];have hall:((Value.type "int"::List.map (fun _=>Value.type "int") fs).toArray.all fun x=>x==Value.type "int")=true:=by rw[<-z5a (f:=fun _=>Value.type "int") (a:=f)];simp only[List.all_toArray,List.all_map,z55];intro _ _;rfl
   have g0:(Value.type "int"::List.map (fun _=>Value.type "int") fs).toArray[0]? = some (Value.type "int"):=by simp
   rw[g0];simp only[hall,z6s,pure_bind];exact z5e ⟨rfl,rfl⟩
theorem keyKind_int{keys:List Value}(h2:2<=keys.length)(hf:∀v∈keys,∃a t,v=.int a t):wpAny (model prog w) A (keyKind' keys.toArray) (fun kd s'=>s'=s/\kd=oneType') E s:=by
 match keys,h2 with
 | v₁::v₂::vs,_=>
   have:∀(l:List Value),(∀v∈l,∃a t,v=.int a t)->∃ns,IntsAre l ns:=by
     intro l
     induction l with
     |nil=>exact fun _=>⟨[],.nil⟩
     | cons v l ih=>
       intro h;obtain⟨a,t,rfl⟩:=h v (z5c ..);obtain⟨ns,hn⟩:=ih fun u hu=>h u (z40 _ hu);exact⟨a::ns,.cons a t hn⟩
   obtain⟨ns,hn⟩:=this _ hf;rw[keyKind_ints hn];exact z5e ⟨rfl,rfl⟩
theorem keyKind_str{keys:List Value}(h2:2<=keys.length)(hf:∀v∈keys,∃a t,v=.str a t):wpAny (model prog w) A (keyKind' keys.toArray) (fun kd s'=>s'=s/\kd=oneType') E s:=by
 match keys,h2 with
 | v₁::v₂::vs,_=>
   rw[keyKind_strs (strsAre_map _ hf)];exact z5e ⟨rfl,rfl⟩
end
end Srt
namespace F
open PySem L2 PySem.Spec PySem.Calls PyProof.Rows PySem.W
open Builtin.List (listItems listUpdate)
def zqu{α:Type}(c:α->List Int)(x:α):List α->List α
 | []=>[x]
 |y::l=>if c y<c x then y::zqu c x l else x::y::l
def jo{α:Type}(c:α->List Int):List α->List α
 | []=>[]
 |x::l=>zqu c x (jo c l)
section
variable {α β:Type}{c:α->List Int}{c':β->List Int}
theorem zds(x:α):∀l:List α,(zqu c x l).Perm (x::l)
 | []=>z77 _
 | y::l=>by
   unfold zqu;split
   · exact((zds x l).cons y).trans (List.Perm.swap x y l)
   · exact z77 _
theorem jz:∀l:List α,(jo c l).Perm l
 | []=>z77 _
 |x::l=>(zds x _).trans ((jz l).cons x)
theorem zn3(x:α):∀l:List α,l.Pairwise (fun a b=>¬ c b<c a)->(zqu c x l).Pairwise (fun a b=>¬ c b<c a)
 | [],_=>z7g _ _
 | y::l,h=>by
   obtain⟨h1,h2⟩:=z63.mp h;unfold zqu;split
   · rename_i hy;refine z63.mpr ⟨fun z hz=>?_,zn3 x l h2⟩;rcases z46.mp ((zds x l).mem_iff.mp hz)with rfl | hz
     · exact List.lt_asymm hy
     · exact h1 z hz
   · rename_i hy;refine z63.mpr ⟨fun z hz=>?_,h⟩;rcases z46.mp hz with rfl | hz
     · exact hy
     · exact z6t.mpr (List.le_trans (z6t.mp hy) (z6t.mp (h1 z hz)))
theorem zdq:∀l:List α,(jo c l).Pairwise (fun a b=>¬ c b<c a)
 | []=>List.Pairwise.nil
 |x::l=>zn3 x _ (zdq l)
theorem zj3(f:α->β)(h:∀a,c' (f a)=c a)(x:α):∀l:List α,zqu c' (f x) (l.map f)=(zqu c x l).map f
 | []=>rfl
 | y::l=>by
   rw[z5a];unfold zqu;rw[h,h];split
   · rw[z5a,zj3 f h x l]
   · rfl
theorem za6(f:α->β)(h:∀a,c' (f a)=c a):∀l:List α,jo c' (l.map f)=(jo c l).map f
 | []=>rfl
 | x::l=>by rw[z5a];unfold jo;rw[za6 f h l,zj3 f h]
theorem zh1{l out:List α}(hp:out.Perm l)(hs:out.Pairwise (fun a b=>¬ c b<c a))(hd:l.Pairwise (fun a b=>c a≠c b)):out=jo c l:=by
 have hd2:∀a b,a∈l->b∈l->c a=c b->a=b:=by
   clear hp hs
   induction l with
   |nil=>intro a b ha;cases ha
   | cons x l ih=>
     obtain⟨h1,h2⟩:=z63.mp hd;intro a b ha hb e;rcases z46.mp ha with ea | ma
     · rcases z46.mp hb with eb | mb
       · rw[ea,eb]
       · rw[ea]at e;exact absurd e (h1 b mb)
     · rcases z46.mp hb with eb | mb
       · rw[eb]at e;exact absurd e.symm (h1 a ma)
       · exact ih h2 a b ma mb e
 refine List.Perm.eq_of_pairwise (le:=fun a b=>¬ c b<c a) (fun a b ha hb h1 h2=>?_) hs (zdq l) (hp.trans (jz l).symm);exact hd2 a b (hp.mem_iff.mp ha) ((jz l).mem_iff.mp hb) (z9f (z6t.mp h1) (z6t.mp h2))
end
def zfr:D->List Int
 | .int n=>[n]
 | .str z=>Srt.nums z
 | .tup [.int a,.int b]=>[a,b]
 | .tup [.int a,.str z]=>a::Srt.nums z
 |_=>[]
def xo:D->Nat
 | .int _=>0
 | .str _=>1
 | .tup [.int _,.int _]=>2
 | .tup [.int _,.str _]=>3
 |_=>4
theorem jr{d:D}(h:xo d<4):(∃n,d=.int n)\/(∃z,d=.str z)\/(∃a b,d=.tup [.int a,.int b])\/(∃a z,d=.tup [.int a,.str z]):=by
 unfold xo at h;split at h
 · exact .inl ⟨_,rfl⟩
 · exact .inr (.inl ⟨_,rfl⟩)
 · exact .inr (.inr (.inl ⟨_,_,rfl⟩))
 · exact .inr (.inr (.inr ⟨_,_,rfl⟩))
 · exact absurd h (by decide)
def zvv:Value->List Int
 | .int n _=>[n]
 | .str z _=>Srt.nums z
 |_=>[]
def zcu(h:Heap):Value->List Int
 | .ref p=>(match h.get? p with
   | some o=>(match o.data with
     | .seq its _=>its.toList.flatMap zvv
     |_=>[])
   |none=>[])
 |v=>zvv v
def ze8(h:Heap):Nat->Value->List Int->Prop
 |0,u,c=>∃n t,u=.int n t/\c=[n]
 |1,u,c=>∃z t,u=.str z t/\c=Srt.nums z
 |2,u,c=>∃p o n a t b t',u=.ref p/\h.get? p=some o/\o.cls=.type "tuple"/\o.data=.seq #[.int a t,.int b t'] n/\c=[a,b]
 |3,u,c=>∃p o n a t b t',u=.ref p/\h.get? p=some o/\o.cls=.type "tuple"/\o.data=.seq #[.int a t,.str b t'] n/\c=a::Srt.nums b
 |_,_,_=>False
theorem zmr{h:Heap}{n:Nat}{u:Value}{c:List Int}(q:ze8 h n u c):zcu h u=c:=by
 match n,q with
 |0,q=>obtain⟨n,t,e,f⟩:=q;subst e f;rfl
 |1,q=>obtain⟨n,t,e,f⟩:=q;subst e f;rfl
 | 2,q=>
   obtain⟨p,o,n,a,t,b,t',e,ho,_,hd,f⟩:=q;subst e f;simp only[zcu,ho,hd];rfl
 | 3,q=>
   obtain⟨p,o,n,a,t,b,t',e,ho,_,hd,f⟩:=q;subst e f;simp[zcu,ho,hd,zvv]
 |n+4,q=>exact False.elim q
section
variable {X:Cx}{pins:zAO}{σ:L2.St}{H:Hp}{s:Shared}{ρ:List Addr}
theorem zpr{d:D}{v:V}{u:Value}(I:Inv X pins σ H s)(hk:xo d<4)(r:Rep X.K X.mg ρ H d v)(q:RelV v u):ze8 s.heap (xo d) u (zfr d):=by
 rcases jr hk with⟨n,rfl⟩ | ⟨z,rfl⟩ | ⟨a,b,rfl⟩ | ⟨a,z,rfl⟩
 · unfold Rep at r;subst r;obtain⟨t,rfl⟩:=q;exact⟨n,t,rfl,rfl⟩
 · unfold Rep at r;subst r;obtain⟨t,rfl⟩:=q;exact⟨z,t,rfl,rfl⟩
 · unfold Rep at r;obtain⟨p,vs,rfl,ht,rl⟩:=r;obtain rfl:u=Value.ref p:=q;simp only[RepL,Rep]at rl;obtain⟨v1,r1,rfl,rfl,v2,r2,rfl,rfl,rfl⟩:=rl;obtain⟨its,rv,⟨o,e,c,n,dd⟩,_⟩:=I.tuple ht.sq;cases rv with
   | cons q1 rv=>
     cases rv with
     | cons q2 rv=>
       cases rv;obtain⟨t1,rfl⟩:=q1;obtain⟨t2,rfl⟩:=q2;exact⟨p,o,n,a,t1,b,t2,rfl,e,c,dd,rfl⟩
 · unfold Rep at r;obtain⟨p,vs,rfl,ht,rl⟩:=r;obtain rfl:u=Value.ref p:=q;simp only[RepL,Rep]at rl;obtain⟨v1,r1,rfl,rfl,v2,r2,rfl,rfl,rfl⟩:=rl;obtain⟨its,rv,⟨o,e,c,n,dd⟩,_⟩:=I.tuple ht.sq;cases rv with
   | cons q1 rv=>
     cases rv with
     | cons q2 rv=>
       cases rv;obtain⟨t1,rfl⟩:=q1;obtain⟨t2,rfl⟩:=q2;exact⟨p,o,n,a,t1,z,t2,rfl,e,c,dd,rfl⟩
theorem zr6(I:Inv X pins σ H s){n:Nat}(hn:n<4):∀{kd:List D}{ws:List V}{ks:List Value},RepL X.K X.mg ρ H kd ws->Vals ws ks->(∀d∈kd,xo d=n)->(∀v∈ks,ze8 s.heap n v (zcu s.heap v))/\ks.map (zcu s.heap)=kd.map zfr
 | [],_,_,r,q,_=>by unfold RepL at r;subst r;cases q;exact⟨fun v hv=>(by cases hv),rfl⟩
 | d::kd,_,_,r,q,hk=>by
   unfold RepL at r;obtain⟨v,vs,rfl,r1,r2⟩:=r;cases q with
   | cons q1 q2=>
     rename_i u us;obtain⟨h1,h2⟩:=zr6 I hn r2 q2 fun d hd=>hk d (z40 _ hd);have e:=hk d z5c;have sh:=zpr I (by rw[e];exact hn) r1 q1;rw[e]at sh;have ev:=zmr sh;refine⟨fun v hv=>?_,by rw[z5a,z5a,h2,ev]⟩;rcases z46.mp hv with z | z
     · rw[z,ev];exact sh
     · exact h1 v z
end
section
variable {prog:Program}{w:World}{A:Around}{E:zVP}{s:Shared}{U:Keyed->Prop}{kc:Keyed->List Int}
theorem zms{n:Nat}(hn:n<4)(hU:∀x,U x->ze8 s.heap n x.1 (kc x)):∃kd,Srt.Cmp prog w A E s kd U (Srt.bk kc)/\∀keys:List Value,2<=keys.length->(∀v∈keys,∃c,ze8 s.heap n v c)->wpAny (model prog w) A (keyKind' keys.toArray) (fun kd' s'=>s'=s/\kd'=kd) E s:=by
 match n,hn,hU with
 |0,_,hU=>exact⟨_,Srt.cmp_int hU,fun keys h2 hf=>Srt.keyKind_int h2 fun v hv=>let⟨c,a,t,e,_⟩:=hf v hv;⟨a,t,e⟩⟩
 |1,_,hU=>exact⟨_,Srt.cmp_str hU,fun keys h2 hf=>Srt.keyKind_str h2 fun v hv=>let⟨c,a,t,e,_⟩:=hf v hv;⟨a,t,e⟩⟩
 |2,_,hU=>exact⟨_,Srt.cmp_ii fun x hx=>let⟨p,o,n,a,t,b,u,e,ho,_,hd,k⟩:=hU x hx;⟨p,o,n,a,t,b,u,e,ho,hd,k⟩,fun keys h2 hf=>Srt.keyKind_tup (fun z=>by rw[z]at h2;exact absurd h2 (by decide)) fun v hv=>let⟨c,p,o,n,a,t,b,u,e,ho,hc,hd,_⟩:=hf v hv;⟨p,o,n,a,t,.int b u,e,ho,hc,hd⟩⟩
 |3,_,hU=>exact⟨_,Srt.cmp_is fun x hx=>let⟨p,o,n,a,t,b,u,e,ho,_,hd,k⟩:=hU x hx;⟨p,o,n,a,t,b,u,e,ho,hd,k⟩,fun keys h2 hf=>Srt.keyKind_tup (fun z=>by rw[z]at h2;exact absurd h2 (by decide)) fun v hv=>let⟨c,p,o,n,a,t,b,u,e,ho,hc,hd,_⟩:=hf v hv;⟨p,o,n,a,t,.str b u,e,ho,hc,hd⟩⟩
end
section
variable {X:Cx}{pins:zAO}{σ:L2.St}{H:Hp}{s:Shared}{ρ:List Addr}{k:Nat}{t:LT}{g:G}{cl:zLA}{is:List Nat}{kv:List D}{ev:Ev}{a c:Addr}{pm ct:Value}{S S':Sto}
theorem zri{A:Around}{ds:List D}{d':D}{vs:List V}{us:List Value}{Q:VK}{E:zVP}(cal:CCal X.prog X.w X.K X.mg X.base k t g)(hn:∀b∈cl.map (·.2),H b=none)(isc:∀b∈cl.map (·.2),∃o v,s.heap.get? b=some o/\o.data=.cell v)(nodup:(cl.map (·.2)).Nodup)
   (nst:∀b∈cl.map (·.2),b∉frs X.stack) (nb:∀b∈cl.map (·.2),X.base.get? b=none) {cs:List V} (hcs:Cells ρ (trk H s.heap cl) t.caps cs cl) (rk:RepL X.K X.mg ρ H kv cs)
   (hr:Room k A) (env0:∀{H':Hp},Env0 X.prog X.w X.K X.mg X.base X.A X.stack s H'->Env0 X.prog X.w X.K X.mg X.base A X.stack s H')
   (I:Inv X pins σ H s) (hS:StOk X.K X.mg ρ H S) (na:a∉ρ) (nc:c∉ρ) (hA:H a=some (.ext (zki t cl a c pm ct))) (hC:H c=some (.ext (yj c t.qual)))
   (rd:RepL X.K X.mg ρ H ds vs) (rv:Vals vs us) (hlen:ds.length=t.params.args.length) (hno:(noCL ds&&noCL kv&&zb7 S)=true) (hg:g (ds++kv) S=some (d',S')) (hno':(noC d'&&zb7 S')=true)
   (kk:∀v ρ' H',Ext ρ H ρ' H'->StOk X.K X.mg ρ' H' S'->Rep X.K X.mg ρ' H' d' v->Q v H') :
   wpAny (model X.prog X.w) A (call (.ref a) us) (EP X pins σ Q) E s:=by
 obtain⟨ps,F,hb⟩:=cal.ex;rw[z50]at hno';obtain⟨n1,n2⟩:=hno';have E2:Ext ρ H ρ (trk H s.heap cl):=⟨fun _ _ e=>e,fun b o h n=>by
   unfold trk;rw[qp (fun z=>by rw[hn b z]at h;cases h)];exact h,fun _ z n=>absurd z n⟩
 have hS2:StOk X.K X.mg ρ (trk H s.heap cl) S:=hS.on hn;have cin:CellsIn (trk H s.heap cl) cl:=fun b hb=>by obtain⟨o,v,h1,_⟩:=isc b hb;exact⟨o,by unfold trk;rw[zbt hb,h1];rfl⟩
 have hok0:HOk X.prog X.w (trk H s.heap cl) s.heap:=fun b u e=>by
   unfold trk at e;by_cases z:b∈cl.map (·.2)
   · obtain⟨o,v,h1,_⟩:=isc b z;rw[zbt z,h1]at e;cases e;exact⟨h1,⟨o,h1⟩⟩
   · rw[qp z]at e;refine(I.hok b u e).stay (fun _ _ _ q=>q) (fun d q=>?_) fun d xs q=>?_
     · unfold trk;rw[qp (fun y=>by rw[hn d y]at q;cases q)];exact q
     · unfold trk;rw[qp (fun y=>by rw[hn d y]at q;cases q)];exact q
 have e0:Env0 X.prog X.w X.K X.mg X.base X.A X.stack s (trk H s.heap cl):=by
   have e:=I.env0;refine⟨e.frames,e.mod,fun b o h=>⟨(e.bs b o h).1,?_⟩,e.bsz,e.funs,fun b hb=>?_,hok0,e.bare⟩
   · unfold trk;rw[qp];exact(e.bs b o h).2;intro z;rw[nb b z]at h;cases h
   · unfold trk;rw[qp];exact e.frf b hb;exact fun z=>nst b z hb
 have hsp:zmo X.K X.mg t a c pm ct cl g vs (trk H s.heap cl) (fun v H'=>CellsIn H' cl->Q v (zba H' cl)) E0 :=
   ⟨ρ,ds,S,d',S',cs,kv,rd.mono E2,hS2,E2.keep _ _ hA na,E2.keep _ _ hC nc,nodup,hcs,rk.mono E2,z16 hno,hg,hlen,fun v ρ' H' E' hS' r' ci=>by
     refine kk v ρ' (zba H' cl) ⟨E'.pre,fun b o hb nb=>?_,fun b hb nb=>?_⟩ (hS'.off ci n2) (r'.off ci n1)
     · have z:b∉cl.map (·.2):=fun z=>by rw[hn b z]at hb;cases hb
       rw[jg z];exact E'.keep b o (E2.keep b o hb nb) nb
     · have:=E'.new b hb nb;by_cases z:b∈cl.map (·.2)
       · exact hn b z
       · unfold trk at this;rw[qp z]at this;exact this⟩
 have hl:(us++[]).length=ps.length:=by rw[z5q,<-rv.length];exact(F a c pm ct cl).len _ _ _ _ hsp
 have hbt:=hb c pm ct cl s us I.kIn hl;rw[z5q]at hbt;refine z9i (z8p ((F a c pm ct cl).run A X.stack s (trk H s.heap cl) ⟨us,[]⟩ us _ _ E0 hr (env0 e0) hbt rv hsp) fun r s' hq=>?_);cases r with
 |error e=>exact hq.elim
 | ok fl=>
   cases fl with
   | ret u=>
     obtain⟨v,H',os,bare,un,hok,rv,q⟩:=hq;have ci:CellsIn H' cl:=fun b hb=>let⟨o,z⟩:=cin b hb;⟨o,un.frzs b o _ z⟩;obtain⟨hh,gn,dr,tt,os'⟩:=s';obtain rfl:os'=s.os:=os;exact⟨v,zba H' cl,I.call (h':=hh) (g':=gn) (d':=dr) (t':=tt) (ch:=[]) (zr1 hn un (fun b hb=>let⟨o,_,z,_⟩:=isc b hb;⟨o,z⟩) (fun b o w z=>(hok b _ z).1)) (zig hok ci) bare (fun b z=>absurd z (by simp)),rv,q ci⟩
   |next=>exact False.elim hq
   |brk=>exact False.elim hq
   |cont=>exact False.elim hq
theorem CapsOk.nst(C:CapsOk X t cl is)(I:Inv X pins σ H s):∀b∈cl.map (·.2),b∉frs X.stack:=fun b hb z=>by
 obtain⟨p,hp,rfl⟩:=z68.mp hb;rcases z46.mp (I.stkSub _ z)with y | y
 · exact I.cne _ _ (C.look p hp) y
 · obtain⟨_,o',h3,_⟩:=I.ok.funs.mem y;have:=I.ok.cab p.1 p.2 (C.fn _ (C.names▸z6q hp)) (C.look p hp);exact absurd (z5f h3) (z8r.mpr this)
theorem CapsOk.nb(C:CapsOk X t cl is)(I:Inv X pins σ H s):∀b∈cl.map (·.2),X.base.get? b=none:=fun b hb=>by obtain⟨p,hp,rfl⟩:=z68.mp hb;have:=I.ok.cab p.1 p.2 (C.fn _ (C.names▸z6q hp)) (C.look p hp);exact z7b (z5j I.ok.bsz this)
def zif(g:G)(n:Nat)(kv:List D):List D->Sto->Option (List D×Sto)
 | [],S=>some ([],S)
 |d::ds,S=>if(noCL [d]&&noCL kv&&zb7 S)=true/\n=1 then (g ([d]++kv) S).bind fun p=>if(noC p.1&&zb7 p.2)=true then (zif g n kv ds p.2).map fun q=>(p.1::q.1,q.2)else none else none
def zkm(a:Addr)(items:Array Value)(kf keyStore x:Value):Sem (ForInStep PUnit):=do
 let __do_lift <-(call kf [x]).attempt
 match __do_lift with
 | Except.ok k=>do
   listUpdate keyStore fun x=>x.push k
   pure (ForInStep.yield PUnit.unit)
 | Except.error e=>do
   rule "list.sort.key-raised"
   let made <-listItems keyStore
   listUpdate keyStore fun x=>#[]
   letGo made.toList.reverse [e]
   listUpdate (Value.ref a) fun x=>items
   throw (α:=Unit) e
   pure (ForInStep.yield PUnit.unit)
theorem zfq(a:Addr)(items:List Value)(kf keyStore:Value):Srt.keysLoop a items.toArray kf keyStore=forIn items PUnit.unit fun x _=>zkm a items.toArray kf keyStore x:=by unfold Srt.keysLoop;rw[List.forIn_toArray];rfl
theorem keys_loop{ks aL:Addr}{E:zVP}(cal:CCal X.prog X.w X.K X.mg X.base k t g)(C:CapsOk X t cl is)(hr:Room k X.A.in1.in1)(hkv:zf7 ev is=some kv)
   (hL:ks≠X.env.locals) (h1:ks∈X.ex\/X.s₀.heap.objs.size<=ks) (h2:∀x c,X.env.cells.lookup x=some c->c≠ks) (h3:∀p∈X.pn++pins,p.1≠ks) (hf:ks∉X.fs) (items:Array Value) {R:Shared->Prop} :
   ∀(ds:List D) (us:List Value) (vs:List V) (kd accD:List D) (accV:List V) (acc:List Value) (m:Nat) (s:Shared) (H:Hp) (ρ:List Addr) (S S':Sto),
     EnvR X.K X.mg ρ H ev σ->StOk X.K X.mg ρ H S->RepL X.K X.mg ρ H ds vs->Vals vs us->RepL X.K X.mg ρ H accD accV->Vals accV acc->a∉ρ->c∉ρ->H a=some (.ext (zki t cl a c pm ct))->H c=some (.ext (yj c t.qual))->zif g t.params.args.length kv ds S=some (kd,S') ->
     Inv X pins σ H s->s.heap.get? ks=some (seqObj "list" acc.toArray m)->H ks=none->acc.length+us.length<=100000 ->
     (∀(keysV:List V) (keys:List Value) (m:Nat) (s':Shared) (H':Hp) (ρ':List Addr),Ext ρ H ρ' H'->StOk X.K X.mg ρ' H' S'->RepL X.K X.mg ρ' H' (accD++kd) keysV->Vals keysV keys->keys.length=acc.length+us.length->Inv X pins σ H' s'->s'.heap.get? ks=some (seqObj "list" keys.toArray m)->H' ks=none->R s') ->
     wpAny (model X.prog X.w) X.A.in1.in1 (forIn us PUnit.unit fun x _=>zkm aL items (.ref a) (.ref ks) x) (fun _ s'=>R s') E s
 | [],us,vs,kd,accD,accV,acc,m,s,H,ρ,S,S',hE,hS,rd,rv,ra,va,na,nc,hA,hC,hk,I,gk,nk,hl,fin=>by unfold RepL at rd;subst rd;cases rv;cases hk;rw[List.forIn_nil];exact z5e (fin accV acc m s H ρ (Ext.refl _ _) hS (by rw[z5q];exact ra) va (by simp) I gk nk)
 | d::ds,us,vs,kd,accD,accV,acc,m,s,H,ρ,S,S',hE,hS,rd,rv,ra,va,na,nc,hA,hC,hk,I,gk,nk,hl,fin=>by
   unfold RepL at rd;obtain⟨v,vs,rfl,rd1,rd2⟩:=rd;cases rv with
   | cons rv0 rv1=>
     rename_i u us;unfold zif at hk;split at hk
     · rename_i hno;obtain⟨hno,hn1⟩:=hno;obtain⟨⟨d',S1⟩,hg,hk⟩:=zv hk;dsimp only at hk;split at hk
       · rename_i hno';obtain⟨⟨kd',S2⟩,hk1,hk2⟩:=yz hk;cases hk2;rw[z8a];unfold zkm;simp only[bind_assoc];have Ik:Inv X (pins++[(ks,seqObj "list" acc.toArray m)]) σ H s:=I.pins_of fun p hp=>by
           rcases z5k.mp hp with q | q
           · exact I.pin p (z44 _ q)
           · rw[z43.mp q];exact⟨gk,nk,hL,hf,fun v e=>by cases e⟩
         obtain⟨cs,hcs,rk⟩:=zb4 C Ik hE hS cl is kv (fun _ h=>h) (by
           rw[C.at_,<-C.names,z8b];rfl) hkv
         rw[C.names]at hcs;refine z4u (z9h (thn (zri (A:=X.A.in1.in1) (Q:=fun v H'=>∃ρ',Ext ρ H ρ' H'/\StOk X.K X.mg ρ' H' S1/\Rep X.K X.mg ρ' H' d' v) cal (C.hn Ik) (C.isc Ik) (C.nodup Ik) (C.nst Ik) (C.nb Ik) hcs rk hr (fun e=>e.in1.in1) Ik hS na nc hA hC (RepL.cons rd1 RepL.nil) (.cons rv0 .nil) (by rw[hn1];rfl) hno hg hno' fun v ρ' H' E' hS' r'=>⟨ρ',E',hS',r'⟩) fun q s' hq=>?_));obtain⟨v',H1,I1,rv,ρ1,E1,hS1,r1⟩:=hq;obtain⟨gk1,nk1,_⟩:=I1.pin (ks,seqObj "list" acc.toArray m) (z44 _ (z44 _ (z43.mpr rfl)));have I2:Inv X pins σ H1 s':=I1.unpinned;dsimp only;refine z4u (z4u (listUpdate_at (f:=fun x=>x.push q) gk1 rfl ?_ (hsz2:=by
           show(acc.toArray.push q).size<=_;rw[z52,z45,z6p];rw[List.length_cons]at hl;omega)))
         refine z5e ?_;show wpAny (model X.prog X.w) X.A.in1.in1 (forIn us PUnit.unit fun x _=>zkm aL items (.ref a) (.ref ks) x) (fun _ s'=>R s') E _;have keep:∀b o,b≠ks->s'.heap.get? b=some o->(s'.heap.update ks (Obj.mapSeq fun x=>x.push q)).get? b=some o:=fun b o nb e=>by rw[z66 _ _ _ _ nb];exact e
         have I3:=I2.turned (t':=s'.toks) keep nk1 hL h1 h2 h3;obtain⟨m2,gk2⟩:∃m2,(s'.heap.update ks (Obj.mapSeq fun x=>x.push q)).get? ks=some (seqObj "list" (acc++[q]).toArray m2):=by
           have e:=get?_update_seq gk1 (fun x=>x.push q);have e2:acc.toArray.push q=(acc++[q]).toArray:=by simp
           rw[e2]at e;exact⟨_,e⟩
         refine keys_loop cal C hr hkv hL h1 h2 h3 hf items ds us vs kd' (accD++[d']) (accV++[v']) (acc++[q]) m2 _ H1 ρ1 S1 S2 (hE.mono E1) hS1 (rd2.mono E1) rv1 ((ra.mono E1).append (RepL.cons r1 RepL.nil)) (va.append (.cons rv .nil)) (E1.out hA na) (E1.out hC nc) (E1.keep _ _ hA na) (E1.keep _ _ hC nc) hk1 I3 gk2 nk1 (by rw[z4t];rw[List.length_cons]at hl;simp;omega) fun keysV keys m3 s3 H3 ρ3 c0 c1 c2 c3 c4 c5 c6 c7=>?_;refine fin keysV keys m3 s3 H3 ρ3 (E1.trans c0) c1 ?_ c3 (by rw[c4,z4t,List.length_cons];simp;omega) c5 c6 c7;rw[z48]at c2;exact c2
       · cases hk
     · cases hk
end
def kn(ks:List D):Nat:=xo (ks.headD (.int 0))
def zmp(ks ds:List D):Option (List D):=if kn ks<4/\(∀d∈ks,xo d=kn ks)/\(ks.map zfr).Pairwise (·≠·)then some ((jo (fun p:List Int×D=>p.1) ((ks.map zfr).zip ds)).map (·.2))else none
def ze4(f:E)(g:G)(j:Nat)(y:Str)(t:LT)(is:List Nat):E:=fun ev S=>(f ev S).bind fun p=>(zkv p.2 p.1).bind fun ds=>match p.2[j]? with
 |some (.tab y' u)=>if y'=y/\u=t.qual/\ds.length<=100000 then (zf7 ev is).bind fun kv=>(zif g t.params.args.length kv ds p.2).bind fun q=>(zmp q.1 ds).map fun r=>(.lst r,q.2)else none
 |_=>none
theorem zwy{K mg ρ H S x ds v}(hS:StOk K mg ρ H S)(r:Rep K mg ρ H x v)(e:zkv S x=some ds):∃l vs,v=.ref l/\SqL K H l vs/\RepL K mg ρ H ds vs:=by
 cases x with
 | lst xs=>
   cases e;unfold Rep at r;obtain⟨p,vs,rfl,t,rl⟩:=r;exact⟨p,vs,rfl,t.sq,rl⟩
 | obj i=>
   unfold Rep at r;obtain⟨a,rfl,ha⟩:=r;have e:(match S[i]? with | some (.lst ds)=>some ds | _=>none)=some ds:=e;split at e
   · rename_i ds' hd;cases e;obtain⟨b,hb,vs,h1,h2⟩:=hS.adr hd;rw[ha]at hb;cases hb;exact⟨a,vs,rfl,.inl (.inl h1),h2⟩
   · cases e
 |_=>cases e
theorem zre{h:Heap}{vs:List Value}{b:Addr}{o:Obj}(e:h.get? b=some o):(Srt.colHeap h vs).get? b=some o:=by unfold Srt.colHeap;refine z4z _ ?_;rw[z66 _ _ _ _ (z5h (z5f e))];exact z4z _ e
theorem zrt{h:Heap}{a:Addr}{vs:List Value}{b:Addr}{o:Obj}(ne:b≠a)(e:h.get? b=some o):(Srt.askHeap h a vs).get? b=some o:=by unfold Srt.askHeap;refine z4z _ (z4z _ ?_);rw[z66 _ _ _ _ ne];exact e
theorem zpa{h:Heap}{a:Addr}{vs:List Value}:(Srt.askHeap h a vs).get? (h.objs.size+1)=some (seqObj "list" ([]:List Value).toArray 0):=by
 unfold Srt.askHeap;have:((h.update a (Obj.mapSeq fun _=>#[])).push (seqObj "tuple" vs.toArray 0)).objs.size=h.objs.size+1:=by rw[z96,z75]
 rw[<-this];exact z5s _ rfl
theorem zwa{α β γ δ:Type}:∀(ks:List α) (is:List β) (vs:List γ) (ds:List δ),ks.length=is.length->is.length=vs.length->vs.length=ds.length->(ks.zip (is.zip (vs.zip ds))).map (fun z=>(z.1,z.2.1))=ks.zip is
 | [],_,_,_,_,_,_=>by simp
 |k::ks,[],_,_,h,_,_=>by cases h
 |k::ks,i::is,[],_,_,h,_=>by cases h
 |k::ks,i::is,v::vs,[],_,_,h=>by cases h
 | k::ks,i::is,v::vs,d::ds,h1,h2,h3=>by simp only[List.zip_cons_cons,z5a];rw[zwa ks is vs ds (z9d h1) (z9d h2) (z9d h3)]
theorem zv9{α β γ δ ε:Type}(f:α->ε):∀(ks:List α) (is:List β) (vs:List γ) (ds:List δ),ks.length=is.length->is.length=vs.length->vs.length=ds.length->(ks.zip (is.zip (vs.zip ds))).map (fun z=>(f z.1,z.2.2.2))=(ks.map f).zip ds
 | [],_,_,_,_,_,_=>by simp
 |k::ks,[],_,_,h,_,_=>by cases h
 |k::ks,i::is,[],_,_,h,_=>by cases h
 |k::ks,i::is,v::vs,[],_,_,h=>by cases h
 | k::ks,i::is,v::vs,d::ds,h1,h2,h3=>by simp only[List.zip_cons_cons,z5a];rw[zv9 f ks is vs ds (z9d h1) (z9d h2) (z9d h3)]
theorem zl3{K mg ρ H}:∀{ds:List D}{vs:List V}{us:List Value},RepL K mg ρ H ds vs->Vals vs us->∀z∈us.zip (vs.zip ds),RelV z.2.1 z.1/\Rep K mg ρ H z.2.2 z.2.1
 | [],_,_,r,q,z,hz=>by unfold RepL at r;subst r;cases q;cases hz
 | d::ds,_,_,r,q,z,hz=>by
   unfold RepL at r;obtain⟨v,vs,rfl,r1,r2⟩:=r;cases q with
   | cons q1 q2=>
     rcases z46.mp hz with rfl | hz
     · exact⟨q1,r1⟩
     · exact zl3 r2 q2 z hz
theorem zi5{α:Type}{f:α->V}{g:α->Value}:∀{l:List α},(∀z∈l,RelV (f z) (g z))->Vals (l.map f) (l.map g)
 | [],_=>.nil
 |z::l,h=>.cons (h z z5c) (zi5 fun y hy=>h y (z40 _ hy))
theorem zji{K mg ρ H}{α:Type}{f:α->D}{g:α->V}:∀{l:List α},(∀z∈l,Rep K mg ρ H (f z) (g z))->RepL K mg ρ H (l.map f) (l.map g)
 | [],_=>RepL.nil
 |z::l,h=>RepL.cons (h z z5c) (zji fun y hy=>h y (z40 _ hy))
theorem ziu:bootBuiltins "sorted"=some (.builtin "sorted"):=by with_unfolding_all rfl
section
variable {X:Cx}{k j:Nat}{y:Str}{g:G}{f:E}{t:LT}{cl:zLA}{is:List Nat}{e le:Expr}{p pos kp:Pos}
theorem zq0(cal:CCal X.prog X.w X.K X.mg X.base k t g)(C:CapsOk X t cl is)(hr:Room (k+2) X.A)(he:FE X e f)(hl:PE X le (z0j X.K X.mg j y t cl))(hm:X.mg "sorted"=none)(hg:Gl X "sorted":=by rfl)
   (hs:starEach [e] X.env=(false,eval e X.env)::starEach [] X.env:=by exact zy rfl):FE X (.Call (.Name "sorted" p) [e] [⟨some "key",le,kp⟩] pos) (ze4 f g j y t is):=by
 intro pins s σ H Q I h;obtain⟨ρ,ev,S,d,S',hE,hS,hf,kk⟩:=h;unfold ze4 at hf;obtain⟨⟨x,S1⟩,q1,hf1⟩:=zv hf;clear hf;obtain⟨ds,q2,hf0⟩:=zv hf1;clear hf1;dsimp only at hf0;split at hf0
 · rename_i y' u hj;split at hf0
   · rename_i hyu;obtain⟨rfl,rfl,hlen⟩:=hyu;obtain⟨kv,q3,hf⟩:=zv hf0;obtain⟨⟨kd,S2⟩,q4,hf⟩:=zv hf;obtain⟨r,q5,hf⟩:=yz hf;cases hf;refine z6n (zdk I hg hm ziu ?_ (by decide) (by decide));have hb0:backTo pos (starEach [e] X.env)=(false,eval e X.env)::backTo pos (starEach [] X.env):=by rw[hs];rfl
     refine callWith_kw ?_ hb0 (by rw[hb0];rfl);refine thn (zb he zd hs pos pins s σ H (fun vs H1=>∃ρ1 v,vs=[v]/\Ext ρ H ρ1 H1/\StOk X.K X.mg ρ1 H1 S1/\Rep X.K X.mg ρ1 H1 x v) I ⟨ρ,ev,S,[x],S1,hE,hS,by unfold aC;rw[q1];rfl,fun vs ρ1 H1 E1 hS1 r1=>?_⟩) fun us s1 ⟨vs,H1,I1,rv,ρ1,v,ev1,E1,hS1,r1⟩=>?_
     · unfold RepL at r1;obtain⟨v,r',rfl,h1,h2⟩:=r1;unfold RepL at h2;subst h2;exact⟨ρ1,v,rfl,E1,hS1,h1⟩
     · subst ev1;cases rv with
       | @cons _ uu _ _ rv0 rv1=>
         cases rv1;refine kws_cons (thn (hl pins s1 σ H1 (fun v H2=>∃a c pm ct,v=.ref a/\Ext ρ1 H1 ρ1 H2/\StOk X.K X.mg ρ1 H2 S1/\a∉ρ1/\c∉ρ1/\H2 a=some (.ext (zki t cl a c pm ct))/\H2 c=some (.ext (yj c t.qual))) I1 ⟨ρ1,S1,hS1,hj,fun a c pm ct H' E' hS' na nc h1 h2=>⟨a,c,pm,ct,rfl,E',hS',na,nc,h1,h2⟩⟩) fun kfv s2 ⟨vk,H2,I2,rk,a,c,pm,ct,ek,E2,hS2,na,nc,hA,hC⟩=>kws_nil ?_);subst ek;obtain rfl:kfv=Value.ref a:=rk;show wpAny _ _ (call (.builtin "sorted") [uu] [(("key":Str),.ref a)]) _ _ _;obtain⟨l,vs,ev2,sq,rl⟩:=zwy hS2 (r1.mono E2) q2;subst ev2;obtain rfl:uu=Value.ref l:=rv0;obtain⟨its,rvs,pl,hz⟩:=I2.list sq;have l1:vs.length=its.length:=rvs.length;have l2:ds.length=vs.length:=rl.length;refine Srt.sorted_key pl.isList rfl (by omega) fun e1 he1=>?_;have szc:(Srt.colHeap s2.heap its).objs.size+1=s2.heap.objs.size+3:=by rw[Srt.col_size]
         have keep:∀b o,s2.heap.get? b=some o->(Srt.askHeap (Srt.colHeap s2.heap its) (s2.heap.objs.size+1) its).get? b=some o:=fun b o e=>zrt (z5h (z8i (z5f e))) (zre e);have gks:(Srt.askHeap (Srt.colHeap s2.heap its) (s2.heap.objs.size+1) its).get? (s2.heap.objs.size+3)=some (seqObj "list" ([]:List Value).toArray 0):=by rw[<-szc];exact zpa
         have I3:Inv X pins σ H2 { s2 with heap:=Srt.askHeap (Srt.colHeap s2.heap its) (s2.heap.objs.size+1) its }:=I2.kept (t':=s2.toks) keep;have fr:∀n,H2 (s2.heap.objs.size+n)=none:=fun n=>I2.hok.fresh (z5d _ _);have nl:∀n,s2.heap.objs.size+n≠X.env.locals:=fun n z=>absurd I2.lt (by rw[<-z];exact z8r.mpr (z5d _ _));have ncell:∀n x c,X.env.cells.lookup x=some c->c≠s2.heap.objs.size+n:=fun n x c e z=>by obtain⟨v,o,ho,_⟩:=I2.cell x c e;have:=z5f ho;rw[z]at this;exact absurd this (z8r.mpr (z5d _ _))
         have npin:∀n,∀p∈X.pn++pins,p.1≠s2.heap.objs.size+n:=fun n p hp z=>by have:=z5f (I2.pin p hp).1;rw[z]at this;exact absurd this (z8r.mpr (z5d _ _))
         have I4:Inv X (pins++[(s2.heap.objs.size+1,seqObj "list" #[] e1)]) σ H2 { s2 with heap:=Srt.askHeap (Srt.colHeap s2.heap its) (s2.heap.objs.size+1) its }:=I3.pins_of fun p hp=>by
           rcases z5k.mp hp with q | q
           · exact I3.pin p (z44 _ q)
           · rw[z43.mp q];exact⟨he1,fr 1,nl 1,I2.nofs (z5d _ _),fun v e=>by cases e⟩
         rw[zfq];refine keys_loop cal C hr.in1.in1 q3 (nl 3) (.inr (z5j I2.sz (z5d _ _))) (ncell 3) (fun p hp=>?_) (I2.nofs (z5d _ _)) _ ds its vs kd [] [] [] 0 _ H2 ρ1 S1 S2 ((hE.mono E1).mono E2) hS2 rl rvs RepL.nil .nil na nc hA hC q4 I4 gks (fr 3) (by simp;omega) fun keysV keys m s5 H5 ρ5 E5 hS5 rk vk lk I5 gk nk=>?_
         · rw[<-z48]at hp;rcases z5k.mp hp with q | q
           · exact npin 3 p q
           · rw[z43.mp q];show s2.heap.objs.size+1≠s2.heap.objs.size+3;omega
         · obtain⟨ga,na5,_⟩:=I5.pin (s2.heap.objs.size+1,seqObj "list" #[] e1) (z44 _ (z44 _ (z43.mpr rfl)));rw[List.nil_append]at rk;have lk:keys.length=its.length:=by simpa using lk
           unfold zmp at q5;split at q5
           · rename_i hc;cases q5;obtain⟨hn4,hkn,hpw⟩:=hc;obtain⟨sh,em⟩:=zr6 I5 hn4 rk vk hkn;have hU:∀x:Keyed,x∈keys.zip its->ze8 s5.heap (kn kd) x.1 (zcu s5.heap x.1):=fun x hx=>sh _ (z7m (a:=x.1) (b:=x.2) hx).1;obtain⟨kdd,hcmp,hkk⟩:=zms (prog:=X.prog) (w:=X.w) (A:=X.A.in1.in1) (E:=X.xe) (U:=fun x=>x∈keys.zip its) (kc:=fun x=>zcu s5.heap x.1) hn4 hU;have pwk:(keys.zip its).Pairwise (fun x y=>zcu s5.heap x.1≠zcu s5.heap y.1):=by
               rw[<-em,z8h]at hpw;have:((keys.zip its).map (·.1)).Pairwise (fun a b=>zcu s5.heap a≠zcu s5.heap b):=by rw[List.map_fst_zip (by omega)];exact hpw
               rw[z8h]at this;exact this
             refine⟨keys,m,kdd,fun x=>x∈keys.zip its,fun x=>zcu s5.heap x.1,gk,ga,lk,fun h2=>hkk keys (by omega) fun v hv=>⟨_,sh v hv⟩,hcmp,fun x hx=>hx,pwk,fun out ho hs _=>?_⟩;have eo:=zh1 (c:=fun x:Keyed=>zcu s5.heap x.1) ho hs pwk;have m1:=za6 (c:=fun z:Value×Value×V×D=>zcu s5.heap z.1) (c':=fun x:Keyed=>zcu s5.heap x.1) (fun z=>(z.1,z.2.1)) (fun _=>rfl) (keys.zip (its.zip (vs.zip ds)));have m2:=za6 (c:=fun z:Value×Value×V×D=>zcu s5.heap z.1) (c':=fun p:List Int×D=>p.1) (fun z=>(zcu s5.heap z.1,z.2.2.2)) (fun _=>rfl) (keys.zip (its.zip (vs.zip ds)));rw[zwa keys its vs ds lk l1.symm l2.symm]at m1;rw[zv9 (zcu s5.heap) keys its vs ds lk l1.symm l2.symm,em]at m2;rw[m1]at eo;have zr:∀z∈jo (fun z:Value×Value×V×D=>zcu s5.heap z.1) (keys.zip (its.zip (vs.zip ds))),RelV z.2.2.1 z.2.1/\Rep X.K X.mg ρ5 H5 z.2.2.2 z.2.2.1:=fun z hz=>
               zl3 (rl.mono E5) rvs z.2 (z7m (a:=z.1) (b:=z.2) ((jz _).mem_iff.mp hz)).2
             have e2:out.map (·.2)=(jo (fun z:Value×Value×V×D=>zcu s5.heap z.1) (keys.zip (its.zip (vs.zip ds)))).map (fun z=>z.2.1):=by rw[eo,z8b];rfl
             have e3:(jo (fun p:List Int×D=>p.1) ((kd.map zfr).zip ds)).map (·.2)=(jo (fun z:Value×Value×V×D=>zcu s5.heap z.1) (keys.zip (its.zip (vs.zip ds)))).map (fun z=>z.2.2.2):=by rw[m2,z8b];rfl
             have rvals:Vals ((jo (fun z:Value×Value×V×D=>zcu s5.heap z.1) (keys.zip (its.zip (vs.zip ds)))).map (fun z=>z.2.2.1)) (out.map (·.2)):=by rw[e2];exact zi5 fun z hz=>(zr z hz).1
             have rreps:RepL X.K X.mg ρ5 H5 ((jo (fun p:List Int×D=>p.1) ((kd.map zfr).zip ds)).map (·.2)) ((jo (fun z:Value×Value×V×D=>zcu s5.heap z.1) (keys.zip (its.zip (vs.zip ds)))).map (fun z=>z.2.2.1)):=by rw[e3];exact zji fun z hz=>(zr z hz).2
             have lo:(out.map (·.2)).length=its.length:=by rw[z56,ho.length_eq,List.length_zip,lk,Nat.min_self]
             have szl:((jo (fun z:Value×Value×V×D=>zcu s5.heap z.1) (keys.zip (its.zip (vs.zip ds)))).map (fun z=>z.2.2.1)).length<=sizeLine:=by rw[rvals.length,lo];omega
             have I6:=I5.turned (t':=s5.toks) (it:=s2.heap.objs.size+3) (h':=s5.heap.update (s2.heap.objs.size+3) (Obj.mapSeq fun _=>#[])) (fun b o nb e=>by rw[z66 _ _ _ _ nb];exact e) nk (nl 3) (.inr (z5j I2.sz (z5d _ _))) (ncell 3) (fun p hp=>by
               rw[<-z48]at hp;rcases z5k.mp hp with q | q
               · exact npin 3 p q
               · rw[z43.mp q];show s2.heap.objs.size+1≠s2.heap.objs.size+3;omega)
             have ga6:(s5.heap.update (s2.heap.objs.size+3) (Obj.mapSeq fun _=>#[])).get? (s2.heap.objs.size+1)=some (seqObj "list" #[] e1):=by rw[z66 _ _ _ _ (z5h (z7n (by decide) _))];exact ga
             have I7:=(Inv.unpinned I6).turned (t':=s5.toks) (it:=s2.heap.objs.size+1) (h':=(s5.heap.update (s2.heap.objs.size+3) (Obj.mapSeq fun _=>#[])).update (s2.heap.objs.size+1) (Obj.mapSeq fun _=>(out.map (·.2)).toArray)) (fun b o nb e=>by rw[z66 _ _ _ _ nb];exact e) na5 (nl 1) (.inr (z5j I2.sz (z5d _ _))) (ncell 1) (npin 1);have ga7:=get?_update_seq ga6 (fun _=>(out.map (·.2)).toArray);have I8:=Inv.track I7 na5 ga7 rvals szl (.inr (z5j I2.sz (z5d _ _))) (nl 1) (ncell 1) (npin 1);exact⟨.ref (s2.heap.objs.size+1),_,I8,rfl,kk _ ρ5 _ (((E1.trans E2).trans E5).trans (jl hS5 _ na5)) (hS5.new _ na5) (Rep.lst (s:=hS5) na5 rreps)⟩
           · cases q5
   · cases hf0
 · cases hf0
end
end F
namespace F
open PySem L2 PySem.Spec PyProof.Rows
def RA(X:Cx)(es:List Expr)(r:R):Prop:=∀(pos:Pos) (pins:zAO) (s:Shared) (σ:L2.St) (H:Hp) (E:XK) (Q:List Value->Shared->Prop),XE X pins σ E->Inv X pins σ H s->tR X.K X.mg r σ H E->wpAny (model X.prog X.w) X.A (spliced (backTo pos (starEach es X.env))) Q X.xe s
def zm3(f:E)(r:R):R:=fun ev S=>(f ev S).bind fun p=>r ev p.2
section
variable {X:Cx}{k:Nat}{x:Str}{g:G}{e:Expr}{es:List Expr}{f:E}{r:R}{p pos:Pos}
theorem zuc(he:RE X e r)(hst:starEach (e::es) X.env=(false,eval e X.env)::starEach es X.env:=by exact zy rfl):RA X (e::es) r:=by intro pos pins s σ H E Q hx I t;rw[hst];show wpAny _ _ (spliced ((false,eval e X.env)::backTo pos (starEach es X.env))) _ _ s;exact z9t (he pins s σ H E _ hx I t)
theorem zud(he:FE X e f)(hr:RA X es r)(hst:starEach (e::es) X.env=(false,eval e X.env)::starEach es X.env:=by exact zy rfl):RA X (e::es) (zm3 f r):=by intro pos pins s σ H E Q hx I t;rw[hst];show wpAny _ _ (spliced ((false,eval e X.env)::backTo pos (starEach es X.env))) _ _ s;obtain⟨ρ,ev,S,c,S',hE,hS,hf,C,hC,kk⟩:=t;obtain⟨⟨y,S1⟩,q1,hf⟩:=zv hf;exact z9t (thn (he pins s σ H (fun v H1=>tR X.K X.mg r σ H1 E) I ⟨ρ,ev,S,y,S1,hE,hS,q1,fun v ρ1 H1 E1 hS1 r1=>⟨ρ1,ev,S1,c,S',hE.mono E1,hS1,hf,C,hC,fun e ρ' H' E' hS'=>kk e ρ' H' (E1.trans E') hS'⟩⟩) fun v s1 ⟨_,H1,I1,_,t1⟩=>hr pos pins s1 σ H1 E _ hx I1 t1)
theorem zp4(cal:Cal X.prog X.w X.K X.mg X.base k x g)(hr:RA X (e::es) r)(hg:Gl X x:=by rfl)(hdb:(x==("__debug__":Str))=false:=by decide)
   (he:starEach (e::es) X.env=(false,eval e X.env)::starEach es X.env:=by exact zy rfl) (hpl:(backTo pos (starEach es X.env)).any (·.1)=false:=by exact qx rfl) :
   RE X (.Call (.Name x p) (e::es) [] pos) r:=by
 obtain⟨f,fd,ps,ds,dvs,dds,gg,F,hm,hk,hb,hd,hdd,hgg⟩:=cal.ex;intro pins s σ H E Q hx I t;refine z6n (zas I hg hm ?_ hdb);exact z7r (h₀:=X.base) I.ok.mod.kin hk (hr pos pins s σ H E _ hx I t) he hpl
end
end F
namespace F
open PySem L2 PySem.Spec PySem.Calls PyProof.Rows PySem.W
abbrev Src:=Ev->Sto->Option ((List D×Option Nat)×Sto)
def okG(us:List D):Option Nat->Sto->Prop
 |none,_=>True
 |some a,S=>S[a]? = some (.lst us)
def zak(us:List D)(o:Option Nat)(c:B)(g:E)(fr:Ev):List D->Sto->Option (List D×Sto):=match o with
 |none=>zch c g fr
 |some a=>yb a us c g fr
section
variable {us:List D}{o:Option Nat}{c:B}{g:E}{fr:Ev}
theorem zrd{ds:List D}{S:Sto}{r:List D×Sto}(h:zak us o c g fr ds S=some r):okG us o S:=by
 cases o with
 |none=>trivial
 |some a=>exact zoz h
theorem zoy{S:Sto}(h:okG us o S):zak us o c g fr [] S=some ([],S):=by
 cases o with
 |none=>rfl
 |some a=>exact ze6 (c:=c) (g:=g) (fr:=fr) h
theorem zln{d:D}{ds:List D}{S:Sto}(h:okG us o S):zak us o c g fr (d::ds) S=(c (some d::fr) S).bind fun p=>if p.1=true then (g (some d::fr) p.2).bind fun q=>(zak us o c g fr ds q.2).bind fun r=>some (q.1::r.1,r.2)else zak us o c g fr ds p.2:=by
 cases o with
 |none=>rfl
 |some a=>exact zd4 h
end
def zrx(K:Frag)(mg:zMg)(J:It)(us:List D)(o:Option Nat)(ρ1:List Addr)(H1:Hp):Prop:=∀ρ' H' S',Ext ρ1 H1 ρ' H'->StOk K mg ρ' H' S'->okG us o S' ->
 (∀i d,us[i]? = some d->J.go i H'/\∀xv H5,J.yld i H' xv H5->H5=H'/\Rep K mg ρ' H' d xv)/\∀i,us.length<=i->J.stop i H'
def wiS(X:Cx)(f:Src):TI:=fun σ H R=>∃ρ ev S us o S1,EnvR X.K X.mg ρ H ev σ/\StOk X.K X.mg ρ H S/\f ev S=some ((us,o),S1)/\∀J ρ1 H1,Ext ρ H ρ1 H1->StOk X.K X.mg ρ1 H1 S1->zrx X.K X.mg J us o ρ1 H1->(∀pins σ s,Inv X pins σ H1 s->us.length<=sizeLine)->R J H1
def zrz(X:Cx)(tg l:Expr)(f:Src):Prop:=PI X tg l (wiS X f)
def z0h(X X':Cx)(us:List D)(o:Option Nat)(cn:B)(g:E)(fre:Ev)(t:L2.St)(fp:List Addr)(tn:Nat->Heap->Prop)(Dl:Addr)(ρ1:List Addr)(H2:Hp)(ds:List D)(Sf:Sto)(m:Nat)(st:Shared):Prop :=
 ∃(i:Nat) (ρ':List Addr) (H':Hp) (ys:List V) (its:List Value) (acc rest:List D) (Si:Sto) (w:Option V),m=us.length-i/\i<=us.length/\Inv X' [] (w::t) H' st/\tn i st.heap/\(∀b∈fp,H' b=none)/\H' Dl=none/\st.heap.PlainList Dl (List.toArray its)/\Vals ys its /\
   Ext ρ1 H2 ρ' H'/\StOk X.K X.mg ρ' H' Si/\RepL X.K X.mg ρ' H' acc ys/\acc.length<=i/\zak us o cn g fre (us.drop i) Si=some (rest,Sf)/\ds=acc++rest
section
variable {X:Cx}{pins:zAO}{σ:L2.St}{H H2:Hp}{s s2:Shared}{scope:Scope}{x:Str}{N':List Str}{fr:List Nat}{fp:List Addr}{ρ ρ1:List Addr}{ds us:List D}{S S1 S2:Sto}{o:Option Nat}
def Fin(X:Cx)(s2:Shared)(H2:Hp)(fp:List Addr)(ρ1:List Addr)(ds:List D)(S2:Sto)(use:Option (Value->Sem Unit))(Q:zVP):Prop :=
 ∀(Dl C:Addr) (s4:Shared) (H':Hp) (ρ':List Addr) (mm:zMg) (ys:List V) (its:List Value) (nn:Nat),s2.heap.objs.size<=Dl->Dl<=C->Dl≠C->s4.heap.Ns C mm->H' C=none->Un (frs X.stack) fp H2 H' s2.heap s4.heap->HOk X.prog X.w H' s4.heap->s4.os=s2.os->AllBare s4.gens ->
   s4.heap.get? Dl=some { cls:=.type "list",data:=.seq (List.toArray its) nn }->H' Dl=none->Vals ys its->RepL X.K X.mg ρ' H' ds ys->ys.length<=sizeLine->Ext ρ1 H2 ρ' H'->StOk X.K X.mg ρ' H' S2->compPost (model X.prog X.w) X.A X.xe use Q (.ref Dl) C (.ok .next) s4
theorem zg6{elt l:Expr}{ifs:List Expr}{px pos:Pos}{g:E}{cn:B}{ev:Ev}{J:It}{it:Addr}{tn:Nat->Heap->Prop}{use:Option (Value->Sem Unit)}{Q:zVP}(c:CompOk X scope x N' fr)(hc:X.calm=true)
   (hif:∀C,FT (jf X (x::N') scope s2 H2 C fp) ifs cn) (helt:∀C,FE (jf X (x::N') scope s2 H2 C fp) elt g)
   (I2:Inv X pins σ H2 s2) (T:Turn X.prog X.w X.K (.Name x px) J fp it tn) (st2:tn 0 s2.heap) (f2:∀b∈fp,zl0 X pins H2 b) (hE1:EnvR X.K X.mg ρ1 H2 ev σ) (hS1:StOk X.K X.mg ρ1 H2 S1) (src:zrx X.K X.mg J us o ρ1 H2) (hz0:us.length<=sizeLine)
   (q2:zak us o cn g (fr.map (zf1 ev)) us S1=some (ds,S2)) (fin:Fin X s2 H2 fp ρ1 ds S2 use Q) :
   wpAny (model X.prog X.w) X.A (newList []) (fun acc s₃=>wpAny (model X.prog X.w) X.A (newFunctionEnv scope X.env.globals (zg8 X.env.cells scope.names []) [] X.env.qual none .none (some X.env)) (fun cenv s₄=>
       codeAny (model X.prog X.w) X.A (.compStart (.ListComp elt [⟨.Name x px,l,ifs,0⟩] scope pos) 0 (.ref it) acc { cenv with scope:=relabel scope X.env }) (compPost (model X.prog X.w) X.A X.xe use Q acc cenv.locals) s₄) X.xe s₃) X.xe s2:=by
 have hcell:∀y∈scope.names,y.2≠.cell:=fun y hy=>(c.chk y hy).1;refine z8f (wpAny_newFunctionEnv hcell (by intro y hy;simp at hy) (fun h₁ hns₁ hsb₁=>?_) c.kind);dsimp only at hns₁ hsb₁ ⊢;generalize hH2:s2.heap.push { cls:=.type "list",dict:=none,data:=.seq ([]:List Value).toArray }=G2 at hns₁ hsb₁ ⊢;have hC:G2.objs.size=s2.heap.objs.size+1:=by rw[<-hH2,z9z]
 have hDC:s2.heap.objs.size≠G2.objs.size:=by rw[hC];exact z5h (z99 _)
 have hCle:s2.heap.objs.size<=G2.objs.size:=by rw[hC];exact z97 _
 have old:∀b o,s2.heap.get? b=some o->h₁.get? b=some o:=fun b o e=>hsb₁.extBut b o (by rw[hC];exact z5h (z8i (z5f e))) (z4z _ (hH2▸z4z _ e));have hacc:h₁.PlainList s2.heap.objs.size #[]:=⟨_,hsb₁.extBut _ _ hDC (z4z _ (hH2▸z5s _ rfl))⟩
 generalize hDl:s2.heap.objs.size=Dl at hDC hCle hacc;generalize hCC:G2.objs.size=C at hDC hCle hns₁ hsb₁ hC ⊢;have hfl:∀b∈fp,b<Dl:=fun b hb=>by obtain⟨o,e,_⟩:=T.obj 0 _ st2 b hb;rw[<-hDl];exact z5f e
 have hHD:H2 Dl=none:=I2.hok.fresh (by rw[hDl];exact z4v _);have hDfs:Dl∉frs X.stack:=fun z=>by
   have z':=I2.stkFree Dl z;rcases z46.mp (I2.stkSub Dl z)with e | e
   · have:=I2.lt;rw[hDl,<-e]at this;exact z61 _ this
   · exact I2.nofs (by rw[hDl];exact z4v _) e
 generalize hX':jf X (x::N') scope s2 H2 C fp=X';have I3:Inv X' [] (none::fr.map (zgh σ)) H2 { s2 with heap:=h₁,toks:=s2.toks+([]:List (Str×Value)).length }:=hX'▸c.start I2 f2 (by rw[hDl];exact hfl) (by rw[hDl];exact hCle) old hns₁;have hEf:EnvR X.K X.mg ρ1 H2 (none::fr.map (zf1 ev)) (none::fr.map (zgh σ)):=by
   refine⟨by simp,fun i d q=>?_⟩;cases i with
   |zero=>simp at q
   | succ i=>
     have q:(fr.map (zf1 ev))[i]? = some (some d):=by simpa using q
     rw[z54]at q;cases ej:fr[i]? with
     |none=>rw[ej]at q;cases q
     | some jj=>
       rw[ej]at q;have q:zf1 ev jj=some d:=by simpa using q
       have hv:ev[jj]? = some (some d):=by
         unfold zf1 at q;split at q
         · rename_i o ho;rw[ho,q]
         · cases q
       obtain⟨v,e1,r⟩:=hE1.at_ jj d hv;refine⟨v,?_,r⟩;show(fr.map (zgh σ))[i]? = some (some v);rw[z54,ej];show some (zgh σ jj)=_;unfold zgh;rw[e1]
 have eA:X'.A=X.A:=by rw[<-hX'];rfl
 have eP:X'.prog=X.prog:=by rw[<-hX'];rfl
 have eW:X'.w=X.w:=by rw[<-hX'];rfl
 have eK:X'.K=X.K:=by rw[<-hX'];rfl
 have eM:X'.mg=X.mg:=by rw[<-hX'];rfl
 have eEx:X'.ex=fp:=by rw[<-hX'];rfl
 have eS0:X'.s₀=s2:=by rw[<-hX'];rfl
 have eH0:X'.H₀=H2:=by rw[<-hX'];rfl
 have eFs:X'.fs=frs X.stack:=by rw[<-hX'];rfl
 have eL:X'.env.locals=C:=by rw[<-hX'];rfl
 have ePn:X'.pn=[]:=by rw[<-hX'];rfl
 have eEnv:X'.env=compEnvC scope (zg8 X.env.cells scope.names []) C X.env:=by rw[<-hX'];rfl
 have eCalm:X'.calm=true:=by rw[<-hX'];exact hc
 have eXe:X'.xe=fun _ _=>False:=by rw[<-hX'];rfl
 have pgx:PG X' (.Name x px) (zn7 0):=by rw[<-hX'];exact zh8 c.nd rfl (.inl (lookup_relabel_local c.hx)) (.inr (lookup_relabel_local c.hx))
 have fel:FE X' elt g:=hX'▸helt C;have ftl:FT X' ifs cn:=hX'▸hif C;have cellLt:∀y a,X'.env.cells.lookup y=some a->a<Dl:=fun y a e=>by rw[eEnv]at e;obtain⟨v,q⟩:=I2.cell y a (zc3 (fun _ _ h=>by cases h) y a e);rw[<-hDl];exact q.lt
 have stat:∀{H':Hp}{pl:zAO},(∀b∈fp,H' b=none)->(∀p∈pl,∀b∈fp,p.1≠b)->∀b∈fp,zl0 X' pl H' b:=fun {H' pl} hn hp b hb=>
   ⟨hn b hb,by rw[eL];exact z5h (z4w (hfl b hb) hCle),by rw[eFs];intro z;rcases z46.mp (I2.stkSub b z)with e | e;exact(f2 b hb).2.1 e;exact(f2 b hb).2.2.1 e,.inl (by rw[eEx];exact hb),fun y a e=>by
     rw[eEnv]at e;exact(f2 b hb).2.2.2.2.1 y a (zc3 (fun _ _ h=>by cases h) y a e),fun p hpp=>hp p (by rw[ePn]at hpp;simpa using hpp) b hb⟩
 have loop:∀s₃:Shared,s₃={ s2 with heap:=h₁,toks:=s2.toks+([]:List (Str×Value)).length } ->
     codeAny (model X.prog X.w) X.A (.compLoop (.ListComp elt [⟨.Name x px,l,ifs,0⟩] scope pos) 0 (.ref it) (.ref Dl) (compEnvC scope (zg8 X.env.cells scope.names []) C X.env))
       (compPost (model X.prog X.w) X.A X.xe use Q (.ref Dl) C) s₃:=by
   rintro s₃ rfl;refine codeAny_compLoop_tests (z0h X X' us o cn g (fr.map (zf1 ev)) (fr.map (zgh σ)) fp tn Dl ρ1 H2 ds S2) ?_ (us.length-0)
     ⟨0,ρ1,H2,[],[],[],ds,S1,none,rfl,z5y _,I3,T.keep _ _ _ st2 (fun b hb o e=>old b o e),fun b hb=>(f2 b hb).1,hHD,hacc,.nil,Ext.refl _ _,hS1,RepL.nil,z4v _,q2,rfl⟩
   intro m st hI;generalize notedBy (model X.prog X.w) X.A (compEnvC scope (zg8 X.env.cells scope.names []) C X.env) (fun e s'=>compPost (model X.prog X.w) X.A X.xe use Q (.ref Dl) C (.error e) s')=EE;obtain⟨i,ρ',H',ys,its,acc,rest,Si,w,rfl,hi,I',tni,hfp',hD',⟨nn,hpl⟩,rv,E',hSi,ra,hal,hcl,hds⟩:=hI;have Ip:Inv X' [(Dl,{ cls:=.type "list",data:=.seq (List.toArray its) nn })] (w::fr.map (zgh σ)) H' st:=I'.pins_of fun p hp=>by rw[z43.mp hp];exact⟨hpl,hD',by rw[eL];exact hDC,by rw[eFs];exact hDfs,fun v z=>by cases z⟩
   have hnp:∀p∈[(Dl,({ cls:=.type "list",data:=.seq (List.toArray its) nn }:Obj))],∀b∈fp,p.1≠b:=fun p hp b hb=>by rw[z43.mp hp];exact z7e (z5h (hfl b hb))
   have gk:=zrd hcl;obtain⟨srcI,srcE⟩:=src ρ' H' Si E' hSi gk;by_cases hlt:i<us.length
   · rw[z6v hlt,zln gk]at hcl;obtain⟨⟨ok,Sc⟩,qc,hcl⟩:=zv hcl;obtain⟨go,yl⟩:=srcI i _ (z4x hlt);have ti:=T.item X' eP eW eK eCalm i [(Dl,{ cls:=.type "list",data:=.seq (List.toArray its) nn })] st (w::fr.map (zgh σ)) H' EE Ip (stat hfp' hnp) tni go;rw[eA]at ti;refine thn ti fun r s4 ⟨u,hr,h4⟩=>?_;subst hr;dsimp only;show wpAny (model X.prog X.w) X.A (letOwnedTupleGo (.Name x px) (.ref it) u >>= fun _=>assign (.Name x px) (compEnvC scope (zg8 X.env.cells scope.names []) C X.env) u) _ _ _;refine z4u (thn h4 fun _ s5 ⟨xv,H5,I5,r5,y5,tn5,fp5⟩=>?_);obtain⟨eH5,rx0⟩:=yl _ _ y5;subst eH5;have I5':=I5.pinned (stat fp5 hnp) (T.obj _ _ tn5);have as5:=pgx _ s5 _ H5 _ u (fun σ' H'=>H'=H5/\σ'=(w::fr.map (zgh σ)).set 0 (some xv)) I5' r5 ⟨rfl,rfl⟩;rw[eP,eW,eA,eEnv,eXe]at as5;refine z69 as5 (fun _ s6 ⟨σ6,H6,I6,eH6,eσ6⟩=>?_) (fun _ _ z=>False.elim z);subst eH6 eσ6;have hE6:EnvR X.K X.mg ρ' H6 (some us[i]::fr.map (zf1 ev)) (some xv::fr.map (zgh σ)):=(hEf.mono E').set (i:=0) rx0;have tc6:=zy4 ftl (Q:=fun b H7=>b=ok/\∃ρ7,Ext ρ' H6 ρ7 H7/\StOk X.K X.mg ρ7 H7 Sc) I6 ⟨ρ',_,Si,ok,Sc,by rw[eK,eM];exact hE6,by rw[eK,eM];exact hSi,qc,fun ρ7 H7 E7 hS7=>⟨rfl,ρ7,E7,by rw[eK,eM]at hS7;exact hS7⟩⟩;rw[eP,eW,eA,eEnv,eXe]at tc6;refine z69 tc6 (fun ok' s6 ⟨H6,I6,eok,ρ6,E6,hS6⟩=>?_) (fun _ _ z=>False.elim z);subst eok;have hE6:=hE6.mono E6;have hpin6:=I6.pin (Dl,{ cls:=.type "list",data:=.seq (List.toArray its) nn }) (z44 _ (z6a _ (z43.mpr rfl)));cases ok' with
     | false=>
       have hcl:zak us o cn g (fr.map (zf1 ev)) (us.drop (i+1)) Sc=some (rest,S2):=hcl;rw[z5n z6m];have I8:Inv X' [] (some xv::fr.map (zgh σ)) H6 s6:=I6.pins_of fun p hp=>by cases hp
       have tn8:tn (i+1) s6.heap:=T.keep _ _ _ tn5 fun b hb o e=>(I6.pin (b,o) (z44 _ (z44 _ (x8 hb e)))).1;refine⟨us.length-(i+1),by omega,i+1,ρ6,H6,ys,its,acc,rest,Sc,_,rfl,by omega,I8,tn8,fun b hb=>?_,hpin6.2.1,⟨nn,hpin6.1⟩,rv,E'.trans E6,hS6,ra.mono E6,by omega,hcl,hds⟩;obtain⟨o,e,dd⟩:=T.obj _ _ tn5 b hb;exact(I6.pin (b,o) (z44 _ (z44 _ (x8 hb e)))).2.1
     | true=>
       rw[z5g rfl];have hcl:(g (some us[i]::fr.map (zf1 ev)) Sc).bind (fun q=>(zak us o cn g (fr.map (zf1 ev)) (us.drop (i+1)) q.2).bind fun r=>some (q.1::r.1,r.2))=some (rest,S2):=hcl;obtain⟨⟨yv,Sn⟩,qe,hcl⟩:=zv hcl;obtain⟨⟨rest',Se⟩,qr,hcl⟩:=zv hcl;cases hcl;have el6:=fel _ s6 _ H6 (fun v H7=>∃ρ7,Ext ρ6 H6 ρ7 H7/\StOk X.K X.mg ρ7 H7 Sn/\Rep X.K X.mg ρ7 H7 yv v) I6 ⟨ρ6,_,Sc,yv,Sn,by rw[eK,eM];exact hE6,by rw[eK,eM];exact hS6,qe,fun v ρ7 H7 E7 hS7 r7=>⟨ρ7,E7,by rw[eK,eM]at hS7;exact hS7,by rw[eK,eM]at r7;exact r7⟩⟩;rw[eP,eW,eA,eEnv,eXe]at el6;refine z69 el6 (fun u7 s7 ⟨v7,H7,I7,r7,ρ7,E7,hS7,rp7⟩=>?_) (fun _ _ z=>False.elim z);have hpin:=I7.pin (Dl,{ cls:=.type "list",data:=.seq (List.toArray its) nn }) (z44 _ (z6a _ (z43.mpr rfl)));have hvl:=rv.length;have hral:=ra.length;refine wpAny_list_append_plain ⟨nn,hpin.1⟩ (fun h8 hp8 hsb8=>?_) (by rw[z45];omega);have I8:Inv X' [] (some xv::fr.map (zgh σ)) H7 { s7 with heap:=h8 }:=by
         have I7':Inv X' [] (some xv::fr.map (zgh σ)) H7 s7:=I7.pins_of fun p hp=>by cases hp
         exact I7'.turned (it:=Dl) (t':=s7.toks) (fun b o hb e=>(hsb8.2 b hb).trans e) hpin.2.1 (by rw[eL];exact hDC) (.inr (by rw[eS0,hDl];exact z4v _)) (fun y a e=>z5h (cellLt y a e)) (fun p hp=>by rw[ePn]at hp;cases hp)
       have tn8:tn (i+1) h8:=T.keep _ _ _ tn5 fun b hb o e=>by have:=(I7.pin (b,o) (z44 _ (z44 _ (x8 hb e)))).1;exact(hsb8.2 b (z5h (hfl b hb))).trans this
       refine⟨us.length-(i+1),by omega,i+1,ρ7,H7,ys++[v7],its++[u7],acc++[yv],rest',Sn,_,rfl,by omega,I8,tn8,fun b hb=>?_,hpin.2.1,?_,rv.append (.cons r7 .nil),(E'.trans E6).trans E7,hS7,((ra.mono E6).mono E7).append (RepL.cons rp7 RepL.nil),by simp;omega,qr,by simp[hds]⟩
       · obtain⟨o,e,dd⟩:=T.obj _ _ tn5 b hb;exact(I7.pin (b,o) (z44 _ (z44 _ (x8 hb e)))).2.1
       · rw[show(its++[u7]).toArray=its.toArray.push u7 by simp];exact hp8
   · have ei:i=us.length:=by omega
     have td:=T.done X' eP eW eK eCalm i [(Dl,{ cls:=.type "list",data:=.seq (List.toArray its) nn })] st (w::fr.map (zgh σ)) H' EE Ip (stat hfp' hnp) tni (srcE i (by omega));rw[eA]at td;refine thn td fun r s4 ⟨hr,I4⟩=>?_;subst hr;dsimp only;rw[z81 (by omega),zoy gk]at hcl;cases hcl;rw[z5q]at hds;subst hds;obtain⟨mm,hns,_⟩:=id I4.loc;rw[eL]at hns;have hpin:=I4.pin (Dl,{ cls:=.type "list",data:=.seq (List.toArray its) nn }) (z44 _ (z43.mpr rfl));have hHC:H' C=none:=by have:=I4.free;rw[eL]at this;exact this
     have bs:=I4.base;rw[eFs,eEx,eH0,eS0]at bs;have hok4:=I4.hok;rw[eP,eW]at hok4;have os4:=I4.os;rw[eS0]at os4;have hvl:=rv.length;have hral:=ra.length;exact fin Dl C s4 H' ρ' mm ys its nn (by rw[hDl];exact z4v _) hCle hDC hns hHC bs hok4 os4 I4.bare hpin.1 hD' rv ra (by omega) E' hSi
 exact codeAny_compStart_list (loop _ rfl) (T.self X.A 0 _ _ _ (T.keep _ _ _ st2 (fun b hb o e=>old b o e)) (loop _ rfl))
theorem zvn(I2:Inv X pins σ H2 s2)(f2:∀b∈fp,zl0 X pins H2 b){Q:VK}(kk:∀l ys ρ' H',Ext ρ1 H2 ρ' H'->StOk X.K X.mg ρ' H' S2->H' l=none->RepL X.K X.mg ρ' H' ds ys->Q (.ref l) (upd H' l (.lst ys))):Fin X s2 H2 fp ρ1 ds S2 none (EP X pins σ Q):=by
 intro Dl C s4 H' ρ' mm ys its nn hDl2 hCle hDC hns hHC bs hok4 os4 bare4 hpin hD' rv ra hz E' hSi;refine⟨mm,hns,fun h' hs'=>?_⟩;have nC:∀b o,s2.heap.get? b=some o->b≠C:=fun b o e z=>by have:=z5f e;rw[z]at this;exact z61 _ (z4w this (z5j hDl2 hCle))
 have un:Un (frs X.stack) fp H2 H' s2.heap h' :=
   ⟨fun b o e n h1 h2=>(hs'.2 b (nC b o e)).trans (bs.keep b o e n h1 h2),fun b o e n h1 h2=>by
     obtain⟨sl,q⟩:=bs.slot b o e n h1 h2;exact⟨sl,(hs'.2 b (nC b o e)).trans q⟩,bs.free,fun b o e h2=>by
     obtain⟨o',q⟩:=bs.there b o e h2;exact⟨o',(hs'.2 b (nC b o e)).trans q⟩,bs.tups,bs.frzs,bs.tbls⟩
 have I9:Inv X pins σ H' { s4 with heap:=h' }:=I2.call' (s':={ s4 with heap:=h' }) os4 un (zh3 hok4 hs' hHC) bare4 fun b hb=>by obtain⟨_,a1,a2,a3,a4,a5⟩:=f2 b hb;exact⟨a3,a1,a4,a5⟩
 have I10:Inv X pins σ (upd H' Dl (.lst ys)) { s4 with heap:=h' }:=Inv.track (its:=its) (n:=nn) I9 hD' ((hs'.2 Dl hDC).trans hpin) rv hz (.inr (z5j I2.sz hDl2)) (z7e (z5h (z4w I2.lt hDl2)))
   (fun y a e=>by
     obtain⟨v,q⟩:=I2.cell y a e;exact z5h (z4w q.lt hDl2)) (fun q hq=>z5h (z4w (z5f (I2.pin q hq).1) hDl2))
 exact⟨.ref Dl,upd H' Dl (.lst ys),I10,rfl,kk Dl ys ρ' H' E' hSi hD' ra⟩
theorem zvo{iy:Nat}{yy:Str}{py:Pos}{EN:Ends}(I2:Inv X pins σ H2 s2)(f2:∀b∈fp,zl0 X pins H2 b)(hN:X.N.Nodup)(hiy:X.N[iy]? = some yy)(hyy:Loc X.env.scope yy)(hfy:X.fn yy=true\/X.env.scope.names.lookup yy=some .local)
   (kk:∀l ys ρ' H',Ext ρ1 H2 ρ' H'->StOk X.K X.mg ρ' H' S2->H' l=none->RepL X.K X.mg ρ' H' ds ys->EN.nx (σ.set iy (some (.ref l))) (upd H' l (.lst ys))):Fin X s2 H2 fp ρ1 ds S2 (some (assign (.Name yy py) X.env)) (fun _ s'=>SP X pins EN .next s'):=by
 intro Dl C s4 H' ρ' mm ys its nn hDl2 hCle hDC hns hHC bs hok4 os4 bare4 hpin hD' rv ra hz E' hSi;have I9:Inv X pins σ H' s4:=I2.call' (s':=s4) os4 bs hok4 bare4 fun b hb=>by obtain⟨_,a1,a2,a3,a4,a5⟩:=f2 b hb;exact⟨a3,a1,a4,a5⟩
 have cl2:∀y a,X.env.cells.lookup y=some a->a<Dl:=fun y a e=>by obtain⟨v,q⟩:=I2.cell y a e;exact z4w q.lt hDl2
 have pl2:∀q∈X.pn++pins,q.1<Dl:=fun q hq=>z4w (z5f (I2.pin q hq).1) hDl2;have ll2:X.env.locals<Dl:=z4w I2.lt hDl2;have I10:Inv X pins σ (upd H' Dl (.lst ys)) s4:=Inv.track (its:=its) (n:=nn) I9 hD' hpin rv hz (.inr (z5j I2.sz hDl2)) (z7e (z5h ll2))
   (fun y a e=>z5h (cl2 y a e)) (fun q hq=>z5h (pl2 q hq))
 refine wpAny_assign_Name (zgn I10 hN hiy hyy (v:=.ref Dl) rfl (fun s5 I5 ⟨aa,sb,ha⟩=>?_) hfy);have hCa:C≠aa:=by
   rcases ha with rfl | ha
   · exact z7e (z5h (z4w ll2 hCle))
   · exact z7e (z5h (z4w (cl2 _ _ ha) hCle))
 refine⟨mm,hns.sameBut sb hCa,fun h' hs'=>?_⟩;have hnC:upd H' Dl (.lst ys) C=none:=by rw[z0 (z7e hDC)];exact hHC
 have I6:=I5.turned (it:=C) (t':=s5.toks) (h':=h') (fun b o hb e=>(hs'.2 b hb).trans e) hnC (z7e (z5h (z4w ll2 hCle))) (.inr (z5j I2.sz (z5j hDl2 hCle)))
   (fun y a e=>z5h (z4w (cl2 y a e) hCle)) (fun q hq=>z5h (z4w (pl2 q hq) hCle))
 exact⟨_,_,I6,kk Dl ys ρ' H' E' hSi hD' ra⟩
end
def zc7(f:E):Src:=fun ev S=>(f ev S).bind fun p=>match p.1 with
 | .lst us=>some ((us,none),p.2)
 | .tup us=>some ((us,none),p.2)
 | .obj a=>(match p.2[a]? with
   |some (.lst us)=>some ((us,some a),p.2)
   |_=>none)
 |_=>none
def zv0(f:E):Src:=fun ev S=>(f ev S).bind fun p=>match p.1 with
 | .int j=>if -(2^62)<=j/\j<2^62/\j<=(sizeLine:Int)then some ((q8 0 j.toNat,none),p.2)else none
 |_=>none
section
variable {X:Cx}{tg l:Expr}{f:E}
theorem zh0(hl:FE X l f):zrz X tg l (zc7 f):=by
 intro pins s σ H R I h;obtain⟨ρ,ev,S,us,o,S1,hE,hS,hf,k⟩:=h;obtain⟨⟨y,S2⟩,q1,hf⟩:=zv hf;cases y with
 | lst us'=>
   cases hf;refine zh7 hl pins s σ H R I ⟨ρ,ev,S,.lst us,S2,hE,hS,q1,fun v ρ1 H1 E1 hS1 r1=>?_⟩;obtain⟨p,vs,rfl,t1,rL⟩:=r1.refL;refine⟨p,rfl,⟨vs,t1.sq⟩,k _ ρ1 H1 E1 hS1 (fun ρ' H' S' E' hS' _=>⟨fun i d hd=>?_,fun i hi=>⟨vs,(t1.mono E').sq,by rw[<-rL.length];exact hi⟩⟩) fun _ _ _ J=>by obtain⟨_,_,_,z⟩:=J.list t1.sq;rw[rL.length];exact z⟩;obtain⟨xv,ex,rx⟩:=(rL.mono E').get hd;exact⟨⟨vs,xv,(t1.mono E').sq,ex⟩,fun u H5 ⟨e,y⟩=>⟨e,by have:=y vs (t1.mono E').sq;rw[ex]at this;cases this;exact rx⟩⟩
 | tup us'=>
   cases hf;refine zxn hl pins s σ H R I ⟨ρ,ev,S,.tup us,S2,hE,hS,q1,fun v ρ1 H1 E1 hS1 r1=>?_⟩;obtain⟨p,vs,rfl,t1,rL⟩:=r1.refT;refine⟨p,rfl,⟨vs,t1.sq⟩,k _ ρ1 H1 E1 hS1 (fun ρ' H' S' E' hS' _=>⟨fun i d hd=>?_,fun i hi=>⟨vs,(t1.mono E').sq,by rw[<-rL.length];exact hi⟩⟩) fun _ _ _ J=>by obtain⟨_,_,_,z⟩:=J.tuple t1.sq;rw[rL.length];exact z⟩;obtain⟨xv,ex,rx⟩:=(rL.mono E').get hd;exact⟨⟨vs,xv,(t1.mono E').sq,ex⟩,fun u H5 ⟨e,y⟩=>⟨e,by have:=y vs (t1.mono E').sq;rw[ex]at this;cases this;exact rx⟩⟩
 | obj a=>
   dsimp only at hf;split at hf
   · rename_i us' hau;cases hf;refine zh7 hl pins s σ H R I ⟨ρ,ev,S,.obj a,S1,hE,hS,q1,fun v ρ1 H1 E1 hS1 r1=>?_⟩;unfold Rep at r1;obtain⟨p,rfl,hp⟩:=r1;obtain⟨vs,h1,r⟩:=hS1.ob _ _ p hau hp;refine⟨p,rfl,⟨vs,SqL.of h1⟩,k _ ρ1 H1 E1 hS1 (fun ρ' H' S' E' hS' ok=>?_) fun _ _ _ J=>by obtain⟨_,_,_,z⟩:=J.list (SqL.of h1);rw[r.length];exact z⟩;obtain⟨vs',h1',r'⟩:=hS'.ob _ _ p ok (E'.pre _ _ hp);refine⟨fun i d hd=>?_,fun i hi=>⟨vs',SqL.of h1',by rw[<-r'.length];exact hi⟩⟩;obtain⟨xv,ex,rx⟩:=r'.get hd;exact⟨⟨vs',xv,SqL.of h1',ex⟩,fun u H5 ⟨e,y⟩=>⟨e,by have:=y vs' (SqL.of h1');rw[ex]at this;cases this;exact rx⟩⟩
   · cases hf
 |_=>cases hf
theorem zwo{p2 p3:Pos}(hm:X.mg "range"=none)(hl:FE X l f)(hg:Gl X "range":=by rfl)(hst:starEach [l] X.env=[(false,eval l X.env)]:=by exact zy rfl):zrz X tg (.Call (.Name "range" p2) [l] [] p3) (zv0 f):=by
 intro pins s σ H R I h;obtain⟨ρ,ev,S,us,o,S1,hE,hS,hf,k⟩:=h;obtain⟨⟨y,S2⟩,q1,hf⟩:=zv hf;cases y with
 | int j=>
   dsimp only at hf;split at hf
   · rename_i hj;cases hf;refine zgt hg hm (zb hl zd hst) hst pins s σ H R I ⟨ρ,ev,S,[.int j],S1,hE,hS,by simp only[aC,aN,q1,Option.bind_some],fun vs ρ1 H1 E1 hS1 r1=>?_⟩;unfold RepL at r1;obtain⟨v,r,rfl,r2,r3⟩:=r1;unfold RepL at r3;subst r3;have hlen:(q8 0 j.toNat).length=j.toNat:=by simp[q8]
     refine⟨j,by rw[show v=.int j from r2],hj.1,hj.2.1,k _ ρ1 H1 E1 hS1 (fun ρ' H' S' E' hS' _=>⟨fun i d hd=>?_,fun i hi=>by rw[hlen]at hi;exact hi⟩) fun _ _ _ _=>by rw[hlen];omega⟩;have hi:i<j.toNat:=by rw[<-hlen];exact(z42.mp hd).1
     refine⟨hi,fun xv H5 ⟨e,y⟩=>⟨e,?_⟩⟩;have:d=.int (0+(i:Int)):=by simp only[q8,z54,List.getElem?_range hi,Option.map_some,Option.some.injEq]at hd;exact hd.symm
     subst this;rw[y];rfl
   · cases hf
 |_=>cases hf
end
open Classical in
def eGd(p:Ev->Prop)(f:E):E:=fun ev S=>if p ev then f ev S else none
theorem zkd{p:Ev->Prop}{f:E}{ev:Ev}{S:Sto}{r:D×Sto}(h:eGd p f ev S=some r):p ev/\f ev S=some r:=by
 unfold eGd at h;split at h
 · rename_i e;exact⟨e,h⟩
 · cases h
theorem zs2{p:Ev->Prop}{f:E}{ev:Ev}{S:Sto}(h:p ev):eGd p f ev S=f ev S:=by unfold eGd;rw[z5g h]
def jc(fr:List Nat)(f:Src)(c:B)(g:E):E:=fun ev S=>(f ev S).bind fun p=>(zak p.1.1 p.1.2 c g (fr.map (zf1 ev)) p.1.1 p.2).map fun q=>(.lst q.1,q.2)
def zb1(fr:List Nat)(f:Src)(c:B)(g:E):E:=fun ev S=>(f ev S).bind fun p=>(zak p.1.1 p.1.2 c g (fr.map (zf1 ev)) p.1.1 p.2).map fun q=>(.obj q.2.length,q.2++[.lst q.1])
section
variable {X:Cx}{scope:Scope}{x:Str}{N':List Str}{fr:List Nat}{elt l:Expr}{ifs:List Expr}{px pos py spos:Pos}{yy:Str}{f:Src}{g:E}{cn:B}{p:Ev->Prop}{iy:Nat}
def Blk(X:Cx)(x:Str)(N':List Str)(scope:Scope)(p:Ev->Prop)(P:Cx->Prop):Prop:=∀{pins σ H s ρ ev fp C},Inv X pins σ H s->EnvR X.K X.mg ρ H ev σ->p ev->(∀b∈fp,zl0 X pins H b)->P (jf X (x::N') scope s H C fp)
theorem zr8{K:Frag}{mg:zMg}{ρ:List Addr}{H:Hp}{S:Sto}{l:Addr}{ys:List V}{ds:List D}(hS:StOk K mg ρ H S)(hn:H l=none)(ra:RepL K mg ρ H ds ys):Ext ρ H (ρ++[l]) (upd H l (.lst ys))/\StOk K mg (ρ++[l]) (upd H l (.lst ys)) (S++[.lst ds])/\Rep K mg (ρ++[l]) (upd H l (.lst ys)) (.obj S.length) (.ref l):=by have ea:=zcg hS (.lst ys) hn;refine⟨ea,hS.add hn ⟨ys,qg,ra.mono ea⟩,?_⟩;unfold Rep;refine⟨l,rfl,?_⟩;rw[z5i (by rw[hS.len]<;>exact z4v _),hS.len];simp
theorem zzi{P:Cx->Prop}(c:CompOk X scope x N' fr)(src:zrz X (.Name x px) l f)(hb:Blk X x N' scope p P)(hif:∀s₀ H₀ C ex,P (jf X (x::N') scope s₀ H₀ C ex)->FT (jf X (x::N') scope s₀ H₀ C ex) ifs cn)(helt:∀s₀ H₀ C ex,P (jf X (x::N') scope s₀ H₀ C ex)->FE (jf X (x::N') scope s₀ H₀ C ex) elt g)
   (hc:X.calm=true:=by rfl) (hs:∀v,foldedSetIterable l X.env v=pure v:=by intro _;rfl) (new:Bool):FE X (.ListComp elt [⟨.Name x px,l,ifs,0⟩] scope pos) (eGd p (if new then zb1 fr f cn g else jc fr f cn g)):=by
 intro pins s σ H Q I h;obtain⟨ρ,ev,S,d,S',hE,hS,hf,k⟩:=h;obtain⟨hp,hf⟩:=zkd hf;obtain⟨⟨us,o⟩,S1,ds,S2,q1,q2,hd⟩:∃(w:List D×Option Nat) (S1:Sto) (ds:List D) (S2:Sto),f ev S=some (w,S1)/\zak w.1 w.2 cn g (fr.map (zf1 ev)) w.1 S1=some (ds,S2)/\(if new then (d,S')=(.obj S2.length,S2++[.lst ds])else (d,S')=(.lst ds,S2)):=by
   cases new
   · obtain⟨⟨w,S1⟩,q1,hf⟩:=zv hf;obtain⟨⟨ds,S2⟩,q2,hf⟩:=yz hf;exact⟨w,S1,ds,S2,q1,q2,hf.symm⟩
   · obtain⟨⟨w,S1⟩,q1,hf⟩:=zv hf;obtain⟨⟨ds,S2⟩,q2,hf⟩:=yz hf;exact⟨w,S1,ds,S2,q1,q2,hf.symm⟩
 rw[eval_ListComp];refine wpAny_comprehension_free (use:=none) rfl hs (zb3 fun p hp e=>I.ok.has p.1 (.inl ((c.chk p hp).2.1 e))) c.kind (fun y hy e=>(c.chk y hy).2.2 e) ?_;refine thn (src pins s σ H (fun J H1=>∃ρ1,Ext ρ H ρ1 H1/\StOk X.K X.mg ρ1 H1 S1/\zrx X.K X.mg J us o ρ1 H1/\(∀pins σ s,Inv X pins σ H1 s->us.length<=sizeLine)) I ⟨ρ,ev,S,us,o,S1,hE,hS,q1,fun J ρ1 H1 E1 hS1 sk hz=>⟨ρ1,E1,hS1,sk,hz⟩⟩) fun v s1 h1=>thn h1 fun itv s2 h2=>?_;obtain⟨it,fp,tn,J,H2,e,I2,T,st2,f2,ρ1,E1,hS1,sk,hz⟩:=h2;subst e;have hE1:=hE.mono E1;refine zg6 c hc (fun C=>hif _ _ _ _ (hb I2 hE1 hp f2)) (fun C=>helt _ _ _ _ (hb I2 hE1 hp f2)) I2 T st2 f2 hE1 hS1 sk (hz _ _ _ I2) q2 (zvn I2 f2 fun l ys ρ' H' E' hS' hn ra=>?_);cases new
 · cases hd;exact k _ ρ' _ (E1.trans (E'.trans (jl hS' _ hn))) (hS'.new _ hn) (Rep.lst (s:=hS') hn ra)
 · cases hd;obtain⟨ea,sa,rr⟩:=zr8 hS' hn ra;exact k _ _ _ (E1.trans (E'.trans ea)) sa rr
theorem zzj{P:Cx->Prop}(new:Bool)(c:CompOk X scope x N' fr)(src:zrz X (.Name x px) l f)(hb:Blk X x N' scope p P)(hif:∀s₀ H₀ C ex,P (jf X (x::N') scope s₀ H₀ C ex)->FT (jf X (x::N') scope s₀ H₀ C ex) ifs cn)(helt:∀s₀ H₀ C ex,P (jf X (x::N') scope s₀ H₀ C ex)->FE (jf X (x::N') scope s₀ H₀ C ex) elt g)(hN:X.N.Nodup)
   (hsw:swapsWith (.ListComp elt [⟨.Name x px,l,ifs,0⟩] scope pos) (some (.Name yy py)) spos.line X.env=pure true:=by rfl)
   (hiy:X.N[iy]? = some yy:=by rfl) (hyy:Loc X.env.scope yy:=by first | exact Or.inl rfl | exact Or.inr rfl) (hfy:X.fn yy=true\/X.env.scope.names.lookup yy=some .local:=by first | exact .inl rfl | exact .inr rfl | assumption)
   (hc:X.calm=true:=by rfl) (hs:∀v,foldedSetIterable l X.env v=pure v:=by intro _;rfl) :
   FS X (.Assign [.Name yy py] (.ListComp elt [⟨.Name x px,l,ifs,0⟩] scope pos) spos) (q9 iy (eGd p (if new then zb1 fr f cn g else jc fr f cn g))):=by
 intro pins s σ H EN I h;obtain⟨ρ,ev,S,oo,S',hE,hS,hf,k⟩:=h;obtain⟨⟨d,SS⟩,hf1,hf0⟩:=yz hf;clear hf;cases hf0;obtain⟨hp,hf⟩:=zkd hf1;clear hf1;obtain⟨⟨us,o⟩,S1,ds,S2,q1,q2,hd⟩:∃(w:List D×Option Nat) (S1:Sto) (ds:List D) (S2:Sto),f ev S=some (w,S1)/\zak w.1 w.2 cn g (fr.map (zf1 ev)) w.1 S1=some (ds,S2)/\(if new then (d,SS)=(.obj S2.length,S2++[.lst ds])else (d,SS)=(.lst ds,S2)):=by
   cases new
   · obtain⟨⟨w,S1⟩,q1,hf⟩:=zv hf;obtain⟨⟨ds,S2⟩,q2,hf⟩:=yz hf;exact⟨w,S1,ds,S2,q1,q2,hf.symm⟩
   · obtain⟨⟨w,S1⟩,q1,hf⟩:=zv hf;obtain⟨⟨ds,S2⟩,q2,hf⟩:=yz hf;exact⟨w,S1,ds,S2,q1,q2,hf.symm⟩
 rw[exec_Assign_Name_used _ _ _ _ hsw];refine z4u (wpAny_standAt (z4u ?_));show wpAny _ X.A (do let _ <-comprehension (.ListComp elt [⟨.Name x px,l,ifs,0⟩] scope pos) scope X.env _ (newList []) false (eval l X.env) (some (assign (.Name yy py) X.env))) _ _ s;refine z4u (z69 (wpAny_comprehension_free (use:=some (assign (.Name yy py) X.env)) (Q:=fun _ s'=>SP X pins EN .next s') rfl hs (zb3 fun p hp e=>I.ok.has p.1 (.inl ((c.chk p hp).2.1 e))) c.kind (fun y hy e=>(c.chk y hy).2.2 e) ?_) (fun _ s' hq=>z5e (z5e hq)) fun _ _ e=>e);refine thn (src pins s σ H (fun J H1=>∃ρ1,Ext ρ H ρ1 H1/\StOk X.K X.mg ρ1 H1 S1/\zrx X.K X.mg J us o ρ1 H1/\(∀pins σ s,Inv X pins σ H1 s->us.length<=sizeLine)) I ⟨ρ,ev,S,us,o,S1,hE,hS,q1,fun J ρ1 H1 E1 hS1 sk hz=>⟨ρ1,E1,hS1,sk,hz⟩⟩) fun v s1 h1=>thn h1 fun itv s2 h2=>?_;obtain⟨it,fp,tn,J,H2,e,I2,T,st2,f2,ρ1,E1,hS1,sk,hz⟩:=h2;subst e;have hE1:=hE.mono E1;refine zg6 c hc (fun C=>hif _ _ _ _ (hb I2 hE1 hp f2)) (fun C=>helt _ _ _ _ (hb I2 hE1 hp f2)) I2 T st2 f2 hE1 hS1 sk (hz _ _ _ I2) q2 (zvo I2 f2 hN hiy hyy hfy fun l ys ρ' H' E' hS' hn ra=>?_);cases new
 · cases hd;have ext:=E1.trans (E'.trans (jl hS' (.lst ys) hn));exact k _ ρ' _ ext (hS'.new _ hn) ((hE.mono ext).set (Rep.lst (s:=hS') hn ra) iy)
 · cases hd;obtain⟨ea,sa,rr⟩:=zr8 hS' hn ra;have ext:=E1.trans (E'.trans ea);exact k _ _ _ ext sa ((hE.mono ext).set rr iy)
end
section
variable {X:Cx}{scope:Scope}{x:Str}{N':List Str}{fr:List Nat}{elt l:Expr}{ifs:List Expr}{px pos py spos:Pos}{yy:Str}{f:Src}{g:E}{cn:B}{iy:Nat}
theorem zze{e:Expr}{f f':E}(h:FE X e f)(m:∀ev S r,f' ev S=some r->f ev S=some r):FE X e f':=fun pins s σ H Q I ⟨ρ,ev,S,d,S',hE,hS,hf,k⟩=>h pins s σ H Q I ⟨ρ,ev,S,d,S',hE,hS,m _ _ _ hf,k⟩
theorem zy6{st:Stmt}{f f':E}(h:FS X st (q9 iy f))(m:∀ev S r,f' ev S=some r->f ev S=some r):FS X st (q9 iy f'):=fun pins s σ H Q I ⟨ρ,ev,S,d,S',hE,hS,hf,k⟩=>h pins s σ H Q I ⟨ρ,ev,S,d,S',hE,hS,by
 obtain⟨r,h1,h2⟩:=yz hf;unfold q9;rw[m _ _ _ h1];exact z64 some h2,k⟩
theorem zzh(new:Bool)(c:CompOk X scope x N' fr)(src:zrz X (.Name x px) l f)(hif:∀s₀ H₀ C ex,FT (jf X (x::N') scope s₀ H₀ C ex) ifs cn)(helt:∀s₀ H₀ C ex,FE (jf X (x::N') scope s₀ H₀ C ex) elt g)
   (hc:X.calm=true:=by rfl) (hs:∀v,foldedSetIterable l X.env v=pure v:=by intro _;rfl):FE X (.ListComp elt [⟨.Name x px,l,ifs,0⟩] scope pos) (if new then zb1 fr f cn g else jc fr f cn g) :=
 zze (zzi (p:=fun _=>True) (P:=fun _=>True) c src (fun _ _ _ _=>trivial) (fun _ _ _ _ _=>hif _ _ _ _) (fun _ _ _ _ _=>helt _ _ _ _) hc hs new) fun _ _ _ h=>(zs2 trivial).trans h
theorem zoj(c:CompOk X scope x N' fr)(src:zrz X (.Name x px) l f)(hif:∀s₀ H₀ C ex,FT (jf X (x::N') scope s₀ H₀ C ex) ifs cn)(helt:∀s₀ H₀ C ex,FE (jf X (x::N') scope s₀ H₀ C ex) elt g)
   (hc:X.calm=true:=by rfl) (hs:∀v,foldedSetIterable l X.env v=pure v:=by intro _;rfl):FE X (.ListComp elt [⟨.Name x px,l,ifs,0⟩] scope pos) (jc fr f cn g):=zzh false c src hif helt hc hs
theorem zzg(c:CompOk X scope x N' fr)(src:zrz X (.Name x px) l f)(hif:∀s₀ H₀ C ex,FT (jf X (x::N') scope s₀ H₀ C ex) ifs cn)(helt:∀s₀ H₀ C ex,FE (jf X (x::N') scope s₀ H₀ C ex) elt g)
   (hc:X.calm=true:=by rfl) (hs:∀v,foldedSetIterable l X.env v=pure v:=by intro _;rfl):FE X (.ListComp elt [⟨.Name x px,l,ifs,0⟩] scope pos) (zb1 fr f cn g):=zzh true c src hif helt hc hs
theorem z2d(new:Bool)(c:CompOk X scope x N' fr)(src:zrz X (.Name x px) l f)(hif:∀s₀ H₀ C ex,FT (jf X (x::N') scope s₀ H₀ C ex) ifs cn)(helt:∀s₀ H₀ C ex,FE (jf X (x::N') scope s₀ H₀ C ex) elt g)(hN:X.N.Nodup)
   (hsw:swapsWith (.ListComp elt [⟨.Name x px,l,ifs,0⟩] scope pos) (some (.Name yy py)) spos.line X.env=pure true:=by rfl)
   (hiy:X.N[iy]? = some yy:=by rfl) (hyy:Loc X.env.scope yy:=by first | exact Or.inl rfl | exact Or.inr rfl) (hfy:X.fn yy=true\/X.env.scope.names.lookup yy=some .local:=by first | exact .inl rfl | exact .inr rfl | assumption)
   (hc:X.calm=true:=by rfl) (hs:∀v,foldedSetIterable l X.env v=pure v:=by intro _;rfl):FS X (.Assign [.Name yy py] (.ListComp elt [⟨.Name x px,l,ifs,0⟩] scope pos) spos) (q9 iy (if new then zb1 fr f cn g else jc fr f cn g)) :=
 zy6 (zzj (p:=fun _=>True) (P:=fun _=>True) new c src (fun _ _ _ _=>trivial) (fun _ _ _ _ _=>hif _ _ _ _) (fun _ _ _ _ _=>helt _ _ _ _) hN hsw hiy hyy hfy hc hs) fun _ _ _ h=>(zs2 trivial).trans h
theorem zy7(iy:Nat)(c:CompOk X scope x N' fr)(src:zrz X (.Name x px) l f)(hif:∀s₀ H₀ C ex,FT (jf X (x::N') scope s₀ H₀ C ex) ifs cn)(helt:∀s₀ H₀ C ex,FE (jf X (x::N') scope s₀ H₀ C ex) elt g)(hN:X.N.Nodup)
   (hsw:swapsWith (.ListComp elt [⟨.Name x px,l,ifs,0⟩] scope pos) (some (.Name yy py)) spos.line X.env=pure true:=by rfl)
   (hiy:X.N[iy]? = some yy:=by rfl) (hyy:Loc X.env.scope yy:=by first | exact Or.inl rfl | exact Or.inr rfl) (hfy:X.fn yy=true\/X.env.scope.names.lookup yy=some .local:=by first | exact .inl rfl | exact .inr rfl | assumption)
   (hc:X.calm=true:=by rfl) (hs:∀v,foldedSetIterable l X.env v=pure v:=by intro _;rfl):FS X (.Assign [.Name yy py] (.ListComp elt [⟨.Name x px,l,ifs,0⟩] scope pos) spos) (q9 iy (jc fr f cn g)):=z2d false c src hif helt hN hsw hiy hyy hfy hc hs
end
def zva(j n:Nat)(x:Str)(t:LT)(is:List Nat):G:=fun ds S=>if ds.length=n then (match S[j]? with
 |some (.tab x' q)=>if x'=x/\q=t.qual then (zf7 (ds.map some) is).map fun vs=>(.clo t vs,S)else none
 |_=>none)else none
section
variable {X:Cx}{pins:zAO}{σ:L2.St}{H H':Hp}{s:Shared}{t:LT}{cl:zLA}{is:List Nat}
theorem zwd{fs:List Addr}{h h':Heap}(u:Un fs [] H H' h h')(hn:∀b∈cl.map (·.2),H' b=none)(new:∀b∈cl.map (·.2),h.get? b=none):Un fs [] H (trk H' h' cl) h h':=by
 have out:∀{b:Addr}{v:HO},H' b=some v->trk H' h' cl b=some v:=fun {b v} e=>by unfold trk;rw[qp fun z=>by rw[hn b z]at e;cases e];exact e
 refine⟨u.keep,u.slot,fun b o e n hx=>?_,u.there,fun b xs e=>out (u.tups b xs e),fun b o v e=>out (u.frzs b o v e),fun b ps e=>let⟨more,q⟩:=u.tbls b ps e;⟨more,out q⟩⟩;unfold trk;rw[qp fun z=>by rw[new b z]at e;cases e];exact u.free b o e n hx
end
section
variable {P:Program}{w:World}{K:Frag}{mg:zMg}{base:Heap}{x qual:Str}{st:Stmt}{ps:List Str}{k j:Nat}{dV:Value}{f:Addr}{fd:FuncData}{t:LT}{is:List Nat}{e:Expr}{p2:Pos}
theorem FunD.okR(F:FunD K x qual st f fd dV){y:Str}(hm:mg y=some (.ref f))(S:FnScope ps ps (zh st))(hst:jb st=[.Return (some e) p2])
   (hpe:∀(cdv:Value),zb6 K mg y cdv->∀(A:Around) (outer:List Env) (s:Shared) (H:Hp) (E:XK),
     ∃cl,CapsOk (zbp CX0 P w K mg base ps qual (zh st) f cdv A outer s H E) t cl is/\PE (zbp CX0 P w K mg base ps qual (zh st) f cdv A outer s H E) e (z0j K mg j y t cl)):FnOk P w K mg base CX0 (k+1) f fd ps (spG K mg (zva j ps.length y t is)):=by
 have co:=F.code hm;obtain⟨oc,od,kV,doc,pm,an,cdv,ct,osl,rfl,lk,hcd⟩:=F.ex;have len:∀vs H Q E,spG K mg (zva j ps.length y t is) vs H Q E->vs.length=ps.length:=fun vs H Q E h=>by
   obtain⟨ρ,ds,S,d,S',r,hS,hf,k⟩:=h;unfold zva at hf;split at hf
   · rename_i hl;rw[<-r.length];exact hl
   · cases hf
 refine⟨len,fun A outer s H args us vs Q E hr e0 hb r hsp=>?_⟩;have hl:=len _ _ _ _ hsp;obtain⟨ρ,ds,S0,d,S',rr,hS,hf,kk⟩:=hsp;have KX:K.In s.heap:=e0.mod.kin.keeps fun b o e=>(e0.bs b o e).1;have lim:s.heap.NoLimit:=e0.mod.nolimit.keeps fun b o e=>(e0.bs b o e).1;have hkind:∀y∈ps.zip us,(zh st).names.lookup y.1=some .local\/((zh st).names.lookup y.1=some .cell/\((cellsFrom (s.heap.objs.size+1) (zh st).names []).lookup y.1).isSome=true):=fun⟨n,v⟩ hy=>by
   rcases S.par n (z7m hy).1 with q | q
   · exact .inl q
   · exact .inr ⟨q,cellsFrom_some _ _ _ (.inl q)⟩
 refine codeAny_call_function hr.depth (KX _ _ lk) rfl S.co S.gen rfl (codeRec_of KX hcd) (hb _ _ _ _ ?_);refine wpAny_newFunctionEnv_cells S.kind hkind fun env he s1 x=>?_;subst he;refine⟨lim.keeps x.toInCall.keep,codeAny_func ?_⟩;have I:Inv (zbp CX0 P w K mg base ps qual (zh st) f cdv A outer s H E) [] (start ps vs) H s1:=zg0 S hr.hd e0 hl r x;obtain⟨cl,C,pe⟩:=hpe cdv co A outer s H E;unfold zva at hf;split at hf
 · rename_i hdl;split at hf
   · rename_i x' q hj;split at hf
     · rename_i hxq;obtain⟨rfl,rfl⟩:=hxq;obtain⟨kv,hkv,hf⟩:=yz hf;cases hf;have hE:EnvR K mg ρ H (ds.map some) (start ps vs):=by have:=EnvR.start (N:=ps) rr;rw[hdl,z9u,List.replicate_zero,z5q]at this;exact this
       rw[hst];refine z7p (thn (z92 (thn (pe [] s1 (start ps vs) H (fun v H1=>∃a c pm ct,v=.ref a/\Ext ρ H ρ H1/\StOk K mg ρ H1 S0/\a∉ρ/\c∉ρ/\H1 a=some (.ext (zki t cl a c pm ct))/\H1 c=some (.ext (yj c t.qual))) I ⟨ρ,S0,hS,hj,fun a c pm ct H' E1 hS1 n1 n2 h1 h2=>⟨a,c,pm,ct,rfl,E1,hS1,n1,n2,h1,h2⟩⟩) fun u s' ⟨v,H1,J,rv,a,c,pm,ct,ev,E1,hS1,n1,n2,h1,h2⟩=>?_)) fun fl s' q=>q);subst ev;have E2:=C.ext (ρ:=ρ) J;obtain⟨cs,hcs,rk⟩:=zb4 C J (hE.mono E1) hS1 cl is kv (fun _ h=>h) (by
         rw[C.at_,<-C.names,z8b];rfl) hkv
       rw[C.names]at hcs;have new:∀b∈cl.map (·.2),s.heap.get? b=none:=fun b hb=>by obtain⟨p,hp,rfl⟩:=z68.mp hb;exact z7b (J.ok.cab p.1 p.2 (C.fn _ (C.names▸z6q hp)) (C.look p hp))
       refine⟨.ref a,trk H1 s'.heap cl,J.os,J.bare,zwd J.base (C.hn J) new,C.hok J,rv,kk (.ref a) ρ _ (E1.trans E2) (C.st J hS1) ?_⟩;unfold Rep;exact⟨a,cs,rfl,⟨n1,c,pm,ct,cl,n2,E2.keep _ _ h1 n1,E2.keep _ _ h2 n2,C.nodup J,hcs⟩,rk.mono E2⟩
     · cases hf
   · cases hf
 · cases hf
theorem HasDef.calR(h:HasDef K mg x st 0)(S:FnScope ps ps (zh st))(hb:zti x x st ps)(hst:jb st=[.Return (some e) p2])
   (hpe:∀(f:Addr) (cdv:Value),zb6 K mg x cdv->∀(A:Around) (outer:List Env) (s:Shared) (H:Hp) (E:XK),
     ∃cl,CapsOk (zbp CX0 P w K mg base ps x (zh st) f cdv A outer s H E) t cl is/\PE (zbp CX0 P w K mg base ps x (zh st) f cdv A outer s H E) e (z0j K mg j x t cl)):Cal P w K mg base (k+1) x (zva j ps.length x t is):=by
 obtain⟨f,fd,dV,F,hm,rfl⟩:=h.ex;exact⟨f,fd,ps,[],[],[],_,F.okR hm S hst (hpe f),hm,F.kp,F.binds0 hb,.nil,fun _ _=>RepL.nil,fun args S r e=>by rw[z5q];exact e⟩
end
section
variable {X:Cx}{a b c e:Expr}{f g h:E}{r:R}{pos:Pos}
theorem zvi{k:Nat}(hr:Room k X.A)(ha:FE X a f)(hb:FE X b g)(hc:FE X c h)(hm:lastMarks [.Eq,.Eq] [b,c]=false:=by with_unfolding_all rfl):FE X (.Compare a [.Eq,.Eq] [b,c] pos) (zay xy xy f g h) :=
 zq4 (zgv (by have:=hr.un;omega)) (zgv (by have:=hr.un;omega)) zfg zfg ha hb hc hm
theorem zub(he:RE X e r):RE X (.Subscript e b pos) r:=fun pins s σ H E Q hx I t=>Subscript_ (he pins s σ H E _ hx I t)
end
end F
namespace Mt
open PySem L2 F
def isI:D->Option Int
 | .int i=>some i
 |_=>none
def isS:D->Option Str
 | .str i=>some i
 |_=>none
def isP:D->Option (Int×Int)
 | .tup [.int a,.int b]=>some (a,b)
 |_=>none
def ad(k:Nat)(x y:D):D:=match k with
 |1=>(match isI x,isI y with | some i,some j=>.int (i+j) | _,_=>.non)
 |2=>(match isS x,isS y with | some i,some j=>.str (i++j) | _,_=>.non)
 |3=>(match isP x,isP y with | some p,some q=>.tup [.int (p.1*q.1%1000003),.int ((p.2*q.1+q.2)%1000003)] | _,_=>.non)
 |4=>(match isI x,isI y with | some i,some j=>.int (if j>i then j else i) | _,_=>.non)
 |_=>.non
theorem zmn(a b c:Str):a++b++c=a++(b++c):=by show Str.mk ((a.cps++b.cps)++c.cps)=Str.mk (a.cps++(b.cps++c.cps));rw[Array.append_assoc]
theorem str_len(a b:Str):(a++b).length=a.length+b.length:=strLen_append a b
theorem ad1(x y:D):ad 1 x y=match isI x,isI y with | some i,some j=>.int (i+j) | _,_=>.non:=rfl
theorem ad2(x y:D):ad 2 x y=match isS x,isS y with | some i,some j=>.str (i++j) | _,_=>.non:=rfl
theorem ad4(x y:D):ad 4 x y=match isI x,isI y with | some i,some j=>.int (if j>i then j else i) | _,_=>.non:=rfl
theorem ad3(x y:D):ad 3 x y=match isP x,isP y with | some p,some q=>.tup [.int (p.1*q.1%1000003),.int ((p.2*q.1+q.2)%1000003)] | _,_=>.non:=rfl
theorem mm(a b m:Int):(a%m*b)%m=a*b%m:=by rw[Int.mul_emod,Int.emod_emod_of_dvd _ (Int.dvd_refl m),<-Int.mul_emod]
theorem mm'(a b m:Int):(b*(a%m))%m=b*a%m:=by rw[Int.mul_comm,mm,Int.mul_comm]
theorem am(a b m:Int):(a%m+b)%m=(a+b)%m:=by rw[Int.add_emod,Int.emod_emod_of_dvd _ (Int.dvd_refl m),<-Int.add_emod]
theorem zru(k:Nat)(x y z:D):ad k (ad k x y) z=ad k x (ad k y z):=by
 match k with
 |0=>rfl
 | 1=>
   simp only[ad1];cases h1:isI x<;>cases h2:isI y<;>cases h3:isI z<;>simp[isI,Int.add_assoc]
 | 2=>
   simp only[ad2];cases h1:isS x<;>cases h2:isS y<;>cases h3:isS z<;>simp[isS,zmn]
 | 3=>
   simp only[ad3];cases h1:isP x<;>cases h2:isP y<;>cases h3:isP z<;>simp[isP];rename_i p q r;constructor
   · rw[mm,mm',Int.mul_assoc]
   · rw[<-am (_*_) _ 1000003,mm,<-am (p.snd*_) _ 1000003,mm',am,am];congr 1;rw[Int.add_mul,Int.mul_assoc,Int.add_assoc]
 | 4=>
   simp only[ad4];cases h1:isI x<;>cases h2:isI y<;>cases h3:isI z<;>simp[isI]
   repeat' split
   all_goals omega
 |n+5=>rfl
def zcj(k:Nat):List D->D
 | []=>.non
 |t::r=>if k=0 then .non else r.foldl (ad k) t
theorem zmm(ts:List D):zcj 0 ts=.non:=by cases ts<;>rfl
theorem zob(k:Nat)(a:D):∀(r:List D) (b:D),r.foldl (ad k) (ad k a b)=ad k a (r.foldl (ad k) b)
 | [],_=>rfl
 | c::r,b=>by show r.foldl (ad k) (ad k (ad k a b) c)=ad k a (r.foldl (ad k) (ad k b c));rw[zru,zob k a r]
theorem yx{k:Nat}(hk:k≠0){xs ys:List D}(hx:xs≠[])(hy:ys≠[]):zcj k (xs++ys)=ad k (zcj k xs) (zcj k ys):=by
 cases xs with
 |nil=>exact absurd rfl hx
 | cons x xs=>
   cases ys with
   |nil=>exact absurd rfl hy
   | cons y ys=>
     show(if k=0 then D.non else (xs++y::ys).foldl (ad k) x)=ad k (if k=0 then D.non else xs.foldl (ad k) x) (if k=0 then D.non else ys.foldl (ad k) y);rw[z5n hk,z5n hk,z5n hk,List.foldl_append,List.foldl_cons,zob]
theorem zbs{k:Nat}(hk:k≠0)(t:D):zcj k [t]=t:=by show(if k=0 then D.non else t)=t;rw[z5n hk]
def Th(k n:Nat)(d:D):Prop:=match k with
 |1=>∃i,d=.int i
 |2=>∃z,d=.str z/\z.length<=8*n
 |3=>∃a b,d=.tup [.int a,.int b]/\0<=a/\a<1000003/\0<=b/\b<1000003
 |4=>∃i,d=.int i
 |_=>False
def Ky(d:D):Prop:=(∃i,d=.int i)\/∃z,d=.str z/\z.length<=8
def Vl(d:D):Prop:=(∃i,d=.int i)\/(∃z,d=.str z)\/d=.non\/(∃b,d=.bl b)\/(∃i z,d=.tup [.int i,.str z])\/∃i j z,d=.tup [.int i,.tup [.int j,.str z]]
def Thing(k:Nat)(d:D):Prop:=match k with
 |0=>∃a v,d=.tup [a,v]/\Ky a/\Vl v
 |k=>Th k 1 d
theorem Th.ad{k n m:Nat}{x y:D}(hx:Th k n x)(hy:Th k m y):Th k (n+m) (ad k x y):=by
 match k,hx,hy with
 |0,h,_=>exact h.elim
 |1,⟨i,e⟩,⟨j,e'⟩=>subst e e';exact⟨_,rfl⟩
 |2,⟨i,e,h⟩,⟨j,e',h'⟩=>subst e e';exact⟨_,rfl,by rw[str_len];omega⟩
 | 3,⟨a,b,e,h⟩,⟨c,d,e',h'⟩=>
   subst e e';exact⟨_,_,rfl,z6r _ (by decide),z58 _ (by decide),z6r _ (by decide),z58 _ (by decide)⟩
 |4,⟨i,e⟩,⟨j,e'⟩=>subst e e';exact⟨_,rfl⟩
 |n+5,h,_=>exact h.elim
theorem Thing.th{k:Nat}{d:D}(hk:k≠0)(h:Thing k d):Th k 1 d:=by
 match k,hk,h with
 |0,hk,_=>exact absurd rfl hk
 |k+1,_,h=>exact h
theorem zmi{k:Nat}(hk:k≠0):∀{ts:List D},ts≠[]->(∀t∈ts,Thing k t)->Th k ts.length (zcj k ts)
 | [],h,_=>absurd rfl h
 | [t],_,h=>by rw[zbs hk];exact(h t (by simp)).th hk
 | t::u::r,_,h=>by rw[show t::u::r=[t]++(u::r)from rfl,yx hk (by simp) (by simp),zbs hk];have:=((h t (by simp)).th hk).ad (zmi hk (ts:=u::r) (by simp) fun x hx=>h x (z40 _ hx));rw[Nat.add_comm]at this;exact this
def ord(a:Bool)(xs:List D):List D:=if a=true then xs.reverse else xs
theorem xw(a:Bool)(xs:List D):(ord a xs).length=xs.length:=by unfold ord;split<;>simp
def mkD(num:Int)(a:Bool)(l t r:D)(sz ht:Int)(to ba:D):D:=.tup [.int num,.bl a,l,t,r,.int sz,.int ht,to,ba]
inductive Mk (k:Nat):D->List D->Nat->Prop where
 |non:Mk k .non [] 0
 | node {num:Int}{a:Bool}{l t r:D}{lt rt:List D}{lh rh:Nat}:Mk k l lt lh->Mk k r rt rh->Thing k t->lh<=rh+1->rh<=lh+1 ->
   Mk k (mkD num a l t r (lt.length+1+rt.length:Nat) (max lh rh+1:Nat) (zcj k (ord a (lt++t::rt))) (zcj k (ord a (lt++t::rt)).reverse)) (ord a (lt++t::rt)) (max lh rh+1)
theorem Mk.things{k d ts h}(m:Mk k d ts h):∀t∈ts,Thing k t:=by
 induction m with
 |non=>intro t ht;cases ht
 | @node num a l t r lt rt lh rh ml mr ht _ _ il ir=>
   intro x hx;have:x∈lt++t::rt:=by
     unfold ord at hx;split at hx
     · exact z73.mp hx
     · exact hx
   rcases z5k.mp this with q | q
   · exact il x q
   · rcases z46.mp q with rfl | q
     · exact ht
     · exact ir x q
end Mt
namespace Pg
open PySem L2 F Mt
variable {k:Nat}{d l r t:D}{ts lt rt:List D}{h lh rh:Nat}{S S1:Sto}{ev e:Ev}
theorem zr3:(2:Nat)<=sizeLine:=by decide
theorem zsx(ts:List D):xy (.lst ts) (.lst [])=some (.bl ts.isEmpty):=by cases ts<;>rfl
theorem zor(i j:Int):xy (.int i) (.int j)=some (.bl (i==j)):=rfl
theorem zmt{i:Nat}{a b:MO}(h:S[i]? = some a):(S.set i b)[i]? = some b:=z51 (z42.mp h).1
theorem zwx{i j:Nat}(hij:i≠j)(b:MO):(S.set i b)[j]? = S[j]?:=z6j hij
def Ok(c:C)(ev:Ev)(S:Sto):Prop:=∃S',c ev S=some (.rt (.bl true),S')
theorem zq{i:Nat}{f:E}(h:f ev S=some (d,S1)):q9 i f ev S=some (.nx (ev.set i (some d)),S1):=by simp[q9,h]
theorem zo{c:B}{a:C}(h:c ev S=some (false,S1)):sIf c a jw ev S=some (.nx ev,S1):=by simp[sIf,h,jw]
theorem qb{c:B}{a b:C}{o:Out}{S2:Sto}(h:c ev S=some (true,S1))(q:a ev S1=some (o,S2)):sIf c a b ev S=some (o,S2):=by simp[sIf,h,q]
theorem qo{f:E}{b:Bool}(h:f ev S=some (.bl b,S1)):bE f ev S=some (b,S1):=by simp[bE,h]
theorem ztc{u:B}(h:u ev S=some (true,S1)):zel u ev S=some (false,S1):=by simp[zel,h]
theorem z4l{u:B}(h:u ev S=some (false,S1)):zel u ev S=some (true,S1):=by simp[zel,h]
theorem zz9{u v:B}(h:u ev S=some (false,S1)):zv6 u v ev S=some (false,S1):=by simp[zv6,h]
theorem ztd{u v:B}{b:Bool}{S2:Sto}(h:u ev S=some (true,S1))(q:v ev S1=some (b,S2)):zv6 u v ev S=some (b,S2):=by simp[zv6,h,q]
theorem z2r{u v:B}(h:u ev S=some (true,S1)):bOr u v ev S=some (true,S1):=by simp[bOr,h]
theorem zvt{u v:B}{b:Bool}{S2:Sto}(h:u ev S=some (false,S1))(q:v ev S1=some (b,S2)):bOr u v ev S=some (b,S2):=by simp[bOr,h,q]
theorem e_2{op:D->D->Option D}{f g:E}{x y z:D}{S2:Sto}(h:f ev S=some (x,S1))(q:g ev S1=some (y,S2))(o:op x y=some z):e2 op f g ev S=some (z,S2):=by simp[e2,h,q,o]
theorem qt{op:Sto->D->D->Option D}{f g:E}{x y z:D}{S2:Sto}(h:f ev S=some (x,S1))(q:g ev S1=some (y,S2))(o:op S2 x y=some z):e2s op f g ev S=some (z,S2):=by simp[e2s,h,q,o]
theorem e_1{op:D->Option D}{f:E}{x z:D}(h:f ev S=some (x,S1))(o:op x=some z):e1 op f ev S=some (z,S1):=by simp[e1,h,o]
theorem e_v{i:Nat}(h:ev[i]? = some (some d)):eV i ev S=some (d,S):=by simp[eV,h]
theorem e_k:eK d ev S=some (d,S):=rfl
theorem a_n:aN ev S=some ([],S):=rfl
theorem a_c{f:E}{g:As}{ds:List D}{S2:Sto}(h:f ev S=some (d,S1))(q:g ev S1=some (ds,S2)):aC f g ev S=some (d::ds,S2):=by simp[aC,h,q]
theorem zj{g:G}{a:As}{ds:List D}{S2:Sto}(h:a ev S=some (ds,S1))(q:g ds S1=some (d,S2)):zm g a ev S=some (d,S2):=by simp[zm,h,q]
theorem e_a{op:Sto->List D->Option D}{a:As}{ds:List D}(h:a ev S=some (ds,S1))(o:op S1 ds=some d):eA op a ev S=some (d,S1):=by simp[eA,h,o]
theorem yi{a:As}{ds:List D}(h:a ev S=some (ds,S1))(hl:ds.length<=16777216):zaj a ev S=some (.tup ds,S1):=by have hz:sizeLine=16777216:=z6p;simp[zaj,eA,h,hz,hl]
theorem zlk{a:As}{ds:List D}(h:a ev S=some (ds,S1))(hl:ds.length<=16777216):zly a ev S=some (.lst ds,S1):=by have hz:sizeLine=16777216:=z6p;simp[zly,eA,h,hz,hl]
theorem zs1{a:As}{ds:List D}(h:a ev S=some (ds,S1))(hl:ds.length<=16777216):zot a ev S=some (.obj S1.length,S1++[.lst ds]):=by have hz:sizeLine=16777216:=z6p;simp[zot,h,hz,hl]
theorem xf{c m:Str}{g:G}{f:E}{a:As}{i:Nat}{fs:List (Str×D)}{ds:List D}{S2 S3:Sto}(h:f ev S=some (.obj i,S1))(hi:zdt c S1 (.obj i)=some (i,fs))(hm:fs.lookup m=none)(ha:a ev S1=some (ds,S2))(q:g (.obj i::ds) S2=some (d,S3)) :
   x5 c m g f a ev S=some (d,S3):=by simp[x5,h,hi,hm,ha,q]
theorem z2m{c n:Str}{f:E}{i:Nat}{fs:List (Str×D)}(h:f ev S=some (.obj i,S1))(hi:zdt c S1 (.obj i)=some (i,fs))(hm:fs.lookup n=some d):zv4 c n f ev S=some (d,S1):=by simp[zv4,h,hi,hm]
theorem zv3{f:E}{a b:Pt}{x:D}{lo hi:Option Int}{S2 S3:Sto}(h:f ev S=some (x,S1))(ha:a ev S1=some (lo,S2))(hb:b ev S2=some (hi,S3))(o:zx4 x lo hi=some d):eSl f a b ev S=some (d,S3):=by simp[eSl,h,ha,hb,o]
theorem p_n:pN ev S=some (none,S):=rfl
theorem p_e{f:E}{i:Int}(h:f ev S=some (.int i,S1)):pE f ev S=some (some i,S1):=by simp[pE,h]
theorem zkb{f g:E}{S2:Sto}(h:f ev S=some (.bl true,S1))(q:g ev S1=some (d,S2)):zpe f g ev S=some (d,S2):=by simp[zpe,h,q]
theorem zzr{f g:E}(h:f ev S=some (.bl false,S1)):zpe f g ev S=some (.bl false,S1):=by simp[zpe,h]
theorem zzq{f:E}{b:Bool}(h:f ev S=some (.bl b,S1)):zzs f ev S=some (.bl !b,S1):=by simp[zzs,e1,h]
theorem add_int(i j:Int):ql (.int i) (.int j)=some (.int (i+j)):=rfl
theorem sub_int(i j:Int):zar (.int i) (.int j)=some (.int (i-j)):=rfl
theorem zea{xs ys:List D}(h:xs.length+ys.length<=16777216):ql (.lst xs) (.lst ys)=some (.lst (xs++ys)):=by have hz:sizeLine=16777216:=z6p;simp[ql,hz,h]
theorem zgg{x:D}{xs ys:List D}(h:(x::xs).length+ys.length<=16777216):ql (.tup (x::xs)) (.tup ys)=some (.tup (x::xs++ys)):=by have hz:sizeLine=16777216:=z6p;simp only[ql,hz,z5g h]
def pl:Nat->D->Bool
 |_,.non=>true
 |_,.bl _=>true
 |_,.int _=>true
 |_,.str _=>true
 |n+1,.tup ds=>ds.all (pl n)
 |n+1,.lst ds=>ds.all (pl n)
 |_,_=>false
theorem zf2{f:D->D->Option Bool}:∀{ds:List D},(∀x∈ds,f x x=some true)->eqL f ds ds=some true
 | [],_=>rfl
 |x::ds,h=>by simp[eqL,h x (by simp),zf2 fun y hy=>h y (z40 _ hy)]
theorem zka:∀{n:Nat}{d:D},pl n d=true->eqN n d d=some true:=by
 intro n
 induction n with
 |zero=>intro d h;cases d<;>first | (cases h;done) | simp[eqN,eqF,zfy,eqV]
 | succ n ih=>
   intro d h;cases d with
   | tup ds=>
     have h:ds.all (pl n)=true:=h;exact zf2 fun x hx=>ih (z55.mp h x hx)
   | lst ds=>
     have h:ds.all (pl n)=true:=h;have q:eqL (eqN n) ds ds=some true:=zf2 fun x hx=>ih (z55.mp h x hx);simp[eqN,q]
   |_=>first | (cases h;done) | simp[eqN,eqF,zfy,eqV,zny]
theorem zne:∀{n m:Nat}{d:D},n<=m->pl n d=true->pl m d=true:=by
 intro n
 induction n with
 |zero=>intro m d _ h;cases d<;>first | (cases h;done) | (cases m<;>rfl)
 | succ n ih=>
   intro m d hm h;cases m with
   |zero=>omega
   | succ m=>
     cases d with
     |tup ds=>exact z55.mpr fun x hx=>ih (by omega) (z55.mp h x hx)
     |lst ds=>exact z55.mpr fun x hx=>ih (by omega) (z55.mp h x hx)
     |_=>first | (cases h;done) | rfl
theorem z1l{x:D}(h:Ky x):pl 0 x=true:=by rcases h with⟨i,rfl⟩ | ⟨z,rfl,_⟩<;>rfl
theorem z1k{x:D}(h:Vl x):pl 2 x=true:=by rcases h with⟨i,rfl⟩ | ⟨z,rfl⟩ | rfl | ⟨b,rfl⟩ | ⟨i,z,rfl⟩ | ⟨i,j,z,rfl⟩<;>rfl
theorem zoq(h:pl 150 d=true):xy d d=some (.bl true):=by unfold xy;rw[zka h];rfl
theorem zx8(h:pl 150 d=true):zut d d=some (.bl false):=by unfold zut;rw[zka h];rfl
theorem jv{N n:Nat}{c:C}{ds:List D}{S S':Sto}{d:D}(hl:ds.length=n)(h:c (ds.map some++List.replicate (N-ds.length) none) S=some (.rt d,S')):z5 N n c ds S=some (d,S'):=by unfold z5;rw[z5g hl,h]
theorem zw{f:E}(h:f ev S=some (d,S1)):qu f ev S=some (.rt d,S1):=by simp[qu,h]
theorem qj{a b:C}(h:a ev S=some (.rt d,S1)):qa a b ev S=some (.rt d,S1):=by simp[qa,h]
theorem zi{a b:C}{o:Out}{S2:Sto}(h:a ev S=some (.nx e,S1))(q:b e S1=some (o,S2)):qa a b ev S=some (o,S2):=by simp[qa,h,q]
def low:Nat->Nat
 |0=>0
 |1=>1
 |h+2=>low (h+1)+low h+1
theorem zqp:∀h:Nat,low h<=low (h+1)
 |0=>by decide
 |1=>by decide
 | h+2=>by show low (h+2)<=low (h+2)+low (h+1)+1;omega
theorem zfo{a b:Nat}(h:a<=b):low a<=low b:=by
 induction b with
 |zero=>rw[Nat.le_zero.mp h];exact z4v _
 | succ b ih=>
   rcases z60 a (b+1)with q | q
   · exact z5j (ih (by omega)) (zqp b)
   · rw[z7z h q];exact z4v _
theorem zyd{k:Nat}{d:D}{ts:List D}{h:Nat}(m:Mk k d ts h):low h<=ts.length:=by
 induction m with
 |non=>decide
 | @node num a l t r lt rt lh rh ml mr ht h1 h2 il ir=>
   rw[xw,z4t,List.length_cons];rcases Nat.le_total lh rh with q | q
   · rw[z9e q];cases rh with
     | zero => have:lh=0:=by omega
               subst this;show 1<=_;omega
     | succ rh=>
       show low (rh+1)+low rh+1<=_;have:=zfo (show rh<=lh by omega);omega
   · rw[Nat.max_eq_left q];cases lh with
     | zero => have:rh=0:=by omega
               subst this;show 1<=_;omega
     | succ lh=>
       show low (lh+1)+low lh+1<=_;have:=zfo (show lh<=rh by omega);omega
theorem yo{x j:Int}(h:0<j):jq (.int x) (.int j)=some (.int (x%j)):=by simp[jq,F.opI,z1x,h]
theorem zll{x j:Int}(h:0<j/\j<1073741824):zdb (.int x) (.int j)=some (.int (x/j)):=by simp[zdb,F.opI,z2n,h]
theorem zju{x y:Int}(h:-(2^64)<x/\x<2^64):zah (.int x) (.int y)=some (.int (x*y)):=by simp only[zah,F.opI,z0m];rw[z5g (.inl h)];rfl
theorem zjt{x y:Int}(h:-(2^64)<y/\y<2^64):zah (.int x) (.int y)=some (.int (x*y)):=by simp only[zah,F.opI,z0m];rw[z5g (.inr (.inl h))];rfl
theorem zdl(S:Sto)(x:MO):(S++[x])[S.length]? = some x:=by simp
end Pg
namespace Pg
open PySem L2 F
noncomputable section
def up:Up:=⟨["NoThing"],["Changed", "NoBalance", "NoMore", "NoName", "NoNumber", "NoPlace", "NoRow", "NoSum", "NoThing", "NoWay", "TooMany"]⟩
def lt_0:LT where
 params:={posonlyargs:=[],args:=[{ arg:="one",annotation:=none,pos:=⟨251,18,251,21⟩:PySem.Arg },{ arg:="other",annotation:=none,pos:=⟨251,23,251,28⟩:PySem.Arg }],vararg:=none,kwonlyargs:=[],kw_defaults:=[],kwarg:=none,defaults:=[]:PySem.Arguments }
 body:=(PySem.Expr.Call
  (func:=(PySem.Expr.Name "before" ⟨251,30,251,36⟩))
  (args:=[(PySem.Expr.Subscript
  (value:=(PySem.Expr.Name "one" ⟨251,37,251,40⟩))
  (slice:=(PySem.Expr.Name "KEY" ⟨251,41,251,44⟩))
  (pos:=⟨251,37,251,45⟩)),(PySem.Expr.Subscript
  (value:=(PySem.Expr.Name "other" ⟨251,47,251,52⟩))
  (slice:=(PySem.Expr.Name "KEY" ⟨251,53,251,56⟩))
  (pos:=⟨251,47,251,57⟩))])
  (keywords:=[])
  (pos:=⟨251,30,251,58⟩))
 scope:={kind:=PySem.ScopeKind.function,names:=[(PySem.Str.ofString "one",PySem.NameKind.local),(PySem.Str.ofString "other",PySem.NameKind.local),(PySem.Str.ofString "before",PySem.NameKind.free),(PySem.Str.ofString "KEY",PySem.NameKind.globalImplicit)],isGenerator:=false,isCoroutine:=false,more:=[]:PySem.Scope }
 qual:=(("by_key":Str)++".<locals>.")++"<lambda>"
 caps:=["before"]
def lt_1:LT where
 params:={posonlyargs:=[],args:=[{ arg:="_law_mark",annotation:=none,pos:=⟨298,45,298,54⟩:PySem.Arg }],vararg:=none,kwonlyargs:=[],kw_defaults:=[],kwarg:=none,defaults:=[]:PySem.Arguments }
 body:=(PySem.Expr.Call
  (func:=(PySem.Expr.Name "_law_key" ⟨298,56,298,64⟩))
  (args:=[(PySem.Expr.Name "_law_kind" ⟨298,65,298,74⟩),(PySem.Expr.Name "_law_mark" ⟨298,76,298,85⟩)])
  (keywords:=[])
  (pos:=⟨298,56,298,86⟩))
 scope:={kind:=PySem.ScopeKind.function,names:=[(PySem.Str.ofString "_law_mark",PySem.NameKind.local),(PySem.Str.ofString "_law_kind",PySem.NameKind.free),(PySem.Str.ofString "_law_key",PySem.NameKind.globalImplicit)],isGenerator:=false,isCoroutine:=false,more:=[]:PySem.Scope }
 qual:=(("_law_pairs":Str)++".<locals>.")++"<lambda>"
 caps:=["_law_kind"]
def lt_2:LT where
 params:={posonlyargs:=[],args:=[{ arg:="_law_one",annotation:=none,pos:=⟨323,25,323,33⟩:PySem.Arg },{ arg:="_law_other",annotation:=none,pos:=⟨323,35,323,45⟩:PySem.Arg }],vararg:=none,kwonlyargs:=[],kw_defaults:=[],kwarg:=none,defaults:=[]:PySem.Arguments }
 body:=(PySem.Expr.Compare
  (left:=(PySem.Expr.Call
  (func:=(PySem.Expr.Name "_law_key" ⟨323,47,323,55⟩))
  (args:=[(PySem.Expr.Name "_law_kind" ⟨323,56,323,65⟩),(PySem.Expr.Name "_law_one" ⟨323,67,323,75⟩)])
  (keywords:=[])
  (pos:=⟨323,47,323,76⟩)))
  (ops:=[PySem.CmpOp.Lt])
  (comparators:=[(PySem.Expr.Call
  (func:=(PySem.Expr.Name "_law_key" ⟨323,79,323,87⟩))
  (args:=[(PySem.Expr.Name "_law_kind" ⟨323,88,323,97⟩),(PySem.Expr.Name "_law_other" ⟨323,99,323,109⟩)])
  (keywords:=[])
  (pos:=⟨323,79,323,110⟩))])
  (pos:=⟨323,47,323,110⟩))
 scope:={kind:=PySem.ScopeKind.function,names:=[(PySem.Str.ofString "_law_one",PySem.NameKind.local),(PySem.Str.ofString "_law_other",PySem.NameKind.local),(PySem.Str.ofString "_law_kind",PySem.NameKind.free),(PySem.Str.ofString "_law_key",PySem.NameKind.globalImplicit)],isGenerator:=false,isCoroutine:=false,more:=[]:PySem.Scope }
 qual:=(("_law_asked":Str)++".<locals>.")++"<lambda>"
 caps:=["_law_kind"]
open Classical in
def zjw:LT->Option G:=fun t=>
 none
def tabs:List (Str×Str):=[("by_key",(("by_key":Str)++".<locals>.")++"<lambda>"),("_law_asked",(("_law_asked":Str)++".<locals>.")++"<lambda>"),("_law_pairs",(("_law_pairs":Str)++".<locals>.")++"<lambda>")]
def ko:C :=
 (qa (zkz "Wood" "adding" (eV 0) (eV 1)) (zkz "Wood" "nodes_made" (eV 0) (eK (.int 0))))
def q0:G:=z5 2 2 ko
def zlu:C :=
 (qa (sIf (bE (e2 xy (eV 0) (eK (.int 1)))) (qu (e2 zar (eK (.int 0)) (eV 1))) jw) (qa (sIf (bE (e2 xy (eV 0) (eK (.int 2)))) (qu (zaj (aC (e2 jq (eV 1) (eK (.int 7))) (aC (eV 1) aN)))) jw) (qa (sIf (bE (e2 xy (eV 0) (eK (.int 3)))) (qu (e2 zdb (eV 1) (eK (.int 3)))) jw) (qa (sIf (bE (e2 xy (eV 0) (eK (.int 4)))) (qu (eA zv7 (aC (eV 1) aN))) jw) (qa (sIf (bE (e2 xy (eV 0) (eK (.int 6)))) (qu (zaj (aC (eA zce (aC (eV 1) aN)) (aC (eV 1) aN)))) jw) (qa (sIf (bE (e2 xy (eV 0) (eK (.int 7)))) (qu (z00 (eV 1) pN (pE (eK (.int 1))))) jw) (qu (eV 1))))))))
def qi:G:=z5 2 2 zlu
def zgc:C :=
 (sIf (zel (bE (zay zer zhq (eK (.int 0)) (eV 0) (eV 1)))) zck jw)
def y9:G:=z5 2 2 zgc
def zz3:C :=
 (qa (sIf (bE (e2 zgi (eV 0) (eK .non))) (qu (eK (.int 0))) jw) (qu (e2s z9 (eV 0) (eK (.int 5)))))
def xx:G:=z5 1 1 zz3
def zz4:C :=
 (qa (sIf (bE (e2 xy (e2s z9 (eV 0) (eK (.int 1))) (eV 1))) (qu (zaj (aC (e2s z9 (eV 0) (eK (.int 2))) (aC (e2s z9 (eV 0) (eK (.int 3))) (aC (e2s z9 (eV 0) (eK (.int 4))) (aC (eK (.bl false)) aN)))))) jw) (qu (zaj (aC (e2s z9 (eV 0) (eK (.int 4))) (aC (e2s z9 (eV 0) (eK (.int 3))) (aC (e2s z9 (eV 0) (eK (.int 2))) (aC (eK (.bl true)) aN)))))))
def zg1:G:=z5 2 2 zz4
def zlr(self:G):C :=
 (qa (q9 3 (zm zg1 (aC (eV 0) (aC (eV 1) aN)))) (qa (q9 4 (zm xx (aC (e2s z9 (eV 3) (eK (.int 0))) aN))) (qa (sIf (bE (e2 zhq (eV 2) (eV 4))) (qu (zm (self) (aC (e2s z9 (eV 3) (eK (.int 0))) (aC (e2s z9 (eV 3) (eK (.int 3))) (aC (eV 2) aN))))) jw) (qa (sIf (bE (e2 zjo (eV 2) (eV 4))) (qu (zm (self) (aC (e2s z9 (eV 3) (eK (.int 2))) (aC (e2s z9 (eV 3) (eK (.int 3))) (aC (e2 zar (e2 zar (eV 2) (eV 4)) (eK (.int 1))) aN))))) jw) (qu (e2s z9 (eV 3) (eK (.int 1))))))))
def j7:Nat->G
 |0=>fun _ _=>none
 |k+1=>z5 5 3 (zlr (j7 k))
def z4k:C :=
 (qa (zbf (zm y9 (aC (eV 1) (aC (zm xx (aC (eV 0) aN)) aN)))) (qu (zm (j7 40) (aC (eV 0) (aC (eK (.bl false)) (aC (eV 1) aN))))))
def zu9:G:=z5 2 2 z4k
def xc:G:=zva 0 1 "by_key" lt_0 [0]
def z0v:E :=
 (zm qi (aC (eV 1) (aC (eV 0) aN)))
def zyy:G:=ziw 2 2 z0v
def z0u:E :=
 (e2 zk7 (zm qi (aC (eV 2) (aC (eV 0) aN))) (zm qi (aC (eV 2) (aC (eV 1) aN))))
def z0s:G:=ziw 3 3 z0u
open Classical in
def zg7:LT->Option G:=fun t=>
 if t=lt_1 then some zyy else
 if t=lt_2 then some z0s else
 none
def z2b:E :=
 (zb2 (fun _=>none) (fun _=>none) zg7 (eV 2) (aC (e2s z9 (eV 0) (eK (.int 0))) (aC (e2s z9 (eV 1) (eK (.int 0))) aN)))
def zyz:G:=ziw 3 3 z2b
open Classical in
def zrh:LT->Option G:=fun t=>
 if t=lt_0 then some zyz else
 none
def ft:Str->Option G:=fun x=>
 none
def zgb:C :=
 (qu (zpe (e2 zhq (eV 1) (zm xx (aC (eV 0) aN))) (zzs (zb2 ft zjw zrh (eV 3) (aC (eV 2) (aC (zm zu9 (aC (eV 0) (aC (eV 1) aN))) aN))))))
def xb:G:=z5 4 4 zgb
def zei(self:G):C :=
 (qa (sIf (bE (e2 zgi (eV 0) (eK .non))) (qu (eK (.int 0))) jw) (qa (q9 4 (zm zg1 (aC (eV 0) (aC (eV 1) aN)))) (qa (sIf (bE (zb2 ft zjw zrh (eV 3) (aC (e2s z9 (eV 4) (eK (.int 1))) (aC (eV 2) aN)))) (qu (e2 ql (e2 ql (zm xx (aC (e2s z9 (eV 4) (eK (.int 0))) aN)) (eK (.int 1))) (zm (self) (aC (e2s z9 (eV 4) (eK (.int 2))) (aC (e2s z9 (eV 4) (eK (.int 3))) (aC (eV 2) (aC (eV 3) aN))))))) jw) (qu (zm (self) (aC (e2s z9 (eV 4) (eK (.int 0))) (aC (e2s z9 (eV 4) (eK (.int 3))) (aC (eV 2) (aC (eV 3) aN)))))))))
def xn:Nat->G
 |0=>fun _ _=>none
 |k+1=>z5 5 4 (zei (xn k))
def zls:C :=
 (qu (zm (xn 40) (aC (eV 0) (aC (eK (.bl false)) (aC (eV 1) (aC (eV 2) aN))))))
def yp:G:=z5 3 3 zls
def zct:C :=
 (qa (q9 3 (zm yp (aC (eV 0) (aC (eV 1) (aC (eV 2) aN))))) (qa (sIf (zel (bE (zm xb (aC (eV 0) (aC (eV 3) (aC (eV 1) (aC (eV 2) aN))))))) zck jw) (qu (eV 3))))
def qm:G:=z5 4 3 zct
def ym:R :=
 (zw8 (q9 3 (zm yp (aC (eV 0) (aC (eV 1) (aC (eV 2) aN))))) (rIf (zel (bE (zm xb (aC (eV 0) (aC (eV 3) (aC (eV 1) (aC (eV 2) aN))))))) (zjj "NoThing" (aC (eK (.str (Str.ofString "nothing alike is there"))) aN)) zw9))
def ja:GR:=zhk 4 3 ym
def zrm:C :=
 (qu (zaj (aC (eV 0) (aC (eK .non) aN))))
def xk:G:=z5 1 1 zrm
def zlq:C :=
 (qu (e2s z9 (zm zu9 (aC (eV 0) (aC (zm qm (aC (eV 0) (aC (zm xk (aC (eV 1) aN)) (aC (zm xc (aC (eV 2) aN)) aN)))) aN))) (eK (.int 1))))
def x9:G:=z5 3 3 zlq
def zc8:R :=
 (zm3 (eV 0) (zm4 ja (aC (eV 0) (aC (zm xk (aC (eV 1) aN)) (aC (zm xc (aC (eV 2) aN)) aN)))))
def x6:GR:=zhk 3 3 zc8
def zek:C :=
 (qa (q9 3 (zly aN)) (qa (zw0 (zbf (zm x9 (aC (eV 0) (aC (eV 1) (aC (eV 2) aN))))) (zm4 x6 (aC (eV 0) (aC (eV 1) (aC (eV 2) aN)))) up.cat 4 (qa (q9 5 (eA (zsq up) (aC (eV 4) (aC (zaj (aC (eK (.fn "Changed")) (aC (eK (.fn "NoBalance")) (aC (eK (.fn "NoMore")) (aC (eK (.fn "NoName")) (aC (eK (.fn "NoNumber")) (aC (eK (.fn "NoPlace")) (aC (eK (.fn "NoRow")) (aC (eK (.fn "NoSum")) (aC (eK (.fn "NoWay")) (aC (eK (.fn "TooMany")) aN))))))))))) aN)))) (q9 3 (zly (aC (eA (zsq up) (aC (eV 4) (aC (eK (.fn "NoThing")) aN))) (aC (eA (zsq up) (aC (eV 4) (aC (eK (.ty "ValueError")) aN))) (aC (eV 5) aN))))))) (qu (eV 3))))
def yg:G:=frz (z5 6 3 zek)
def zir:C :=
 (qa (sIf (bOr (bE (eA zlx (aC (eV 0) (aC (eK (.ty "bool")) aN)))) (bE (eA zlx (aC (eV 1) (aC (eK (.ty "bool")) aN))))) (qu (zpe (eA zlx (aC (eV 0) (aC (eK (.ty "bool")) aN))) (zpe (eA zlx (aC (eV 1) (aC (eK (.ty "bool")) aN))) (e2 xy (eV 0) (eV 1))))) jw) (qu (e2 xy (eV 0) (eV 1))))
def j6:G:=z5 2 2 zir
def zhj(cl:zLA):C :=
 (qa (q9 4 (zzt 1 "_law_asked" { lt_2 with cl:=cl })) (qa (q9 5 (jc [3,2] (zc7 (eV 1)) (bE (e2 xy (zm qi (aC (eV 1) (aC (e2s z9 (eV 0) (eK (.int 0))) aN))) (zm qi (aC (eV 1) (aC (eV 2) aN))))) (eV 0))) (qa (sIf (bE (e2 xy (eV 5) (zly aN))) (qu (e2 xy (ze5 yg (aC (eV 0) (aC (eV 2) aN)) 4 lt_2 cl [3]) (zly (aC (eK (.bl true)) (aC (eK (.bl true)) (aC (eK (.bl false)) aN)))))) jw) (qu (zm j6 (aC (ze5 x9 (aC (eV 0) (aC (eV 2) aN)) 4 lt_2 cl [3]) (aC (e2s z9 (e2s z9 (eV 5) (eK (.int 0))) (eK (.int 1))) aN)))))))
def xu:G:=gA fun cl=>z5 6 4 (zhj cl)
def zis:C :=
 (qa (q9 2 (e2 ql (e2 zah (e2 zah (eV 1) (eV 1)) (eK (.int 7919))) (eK (.int 17)))) (qa (sIf (bE (e2 zjo (eA zce (aC (eV 0) aN)) (eK (.int 0)))) (q9 2 (e2 ql (e2 jq (e2s z9 (eV 0) (e2 jq (eV 1) (eA zce (aC (eV 0) aN)))) (e2 zda (eK (.int 10)) (eK (.int 30)))) (e2 zah (e2 zdb (eV 1) (eA zce (aC (eV 0) aN))) (eK (.int 104729))))) jw) (qu (e2 jq (e2 zah (e2 jq (e2 ql (e2 zah (eV 2) (eK (.int 48271))) (e2 zah (eV 1) (eK (.int 69621)))) (eK (.int 2147483647))) (e2 ql (e2 jq (eV 2) (eK (.int 65521))) (eK (.int 3)))) (eK (.int 999999937))))))
def z8:G:=z5 3 2 zis
def zhg:C :=
 (qa (sIf (zv6 (bE (e2 zhq (eV 0) (eK (.int 5)))) (bE (e2 xy (e2 jq (eV 1) (eK (.int 9))) (eK (.int 0))))) (qu (e2 zar (e2 ql (e2 jq (e2 zah (e2 ql (eV 1) (eK (.int 5))) (e2 zda (eK (.int 982451653)) (eK (.int 6)))) (e2 zar (e2 zah (eK (.int 2)) (e2 zda (eK (.int 10)) (eK (.int 60)))) (eK (.int 1)))) (eK (.int 1))) (e2 zda (eK (.int 10)) (eK (.int 60))))) jw) (qa (sIf (bE (e2 zhq (eV 0) (eK (.int 5)))) (qu (e2 zar (e2 jq (e2 zdb (eV 1) (eK (.int 9))) (eK (.int 81))) (eK (.int 40)))) jw) (qa (q9 2 (eK (.str (Str.ofString "")))) (qa (zky 3 (e2 ql (eK (.int 1)) (e2 jq (eV 1) (eK (.int 8)))) (q9 2 (e2 ql (eV 2) (e2s z9 (eK (.str (Str.ofString "abc"))) (e2 jq (e2 zdb (eV 1) (e2s z9 (zaj (aC (eK (.int 8)) (aC (eK (.int 24)) (aC (eK (.int 72)) (aC (eK (.int 216)) (aC (eK (.int 648)) (aC (eK (.int 1944)) (aC (eK (.int 5832)) (aC (eK (.int 17496)) aN))))))))) (eV 3))) (eK (.int 3))))))) (qu (eV 2))))))
def je:G:=z5 4 2 zhg
def zhf:C :=
 (qa (q9 1 (zly (aC (eV 0) (aC (e2 ql (eK (.str (Str.ofString "v"))) (eA zvz (aC (e2 jq (eV 0) (eK (.int 999))) aN))) (aC (zaj (aC (e2 jq (eV 0) (eK (.int 7))) (aC (eK (.str (Str.ofString "t"))) aN))) (aC (eK .non) (aC (eK (.bl true)) (aC (eK (.int 0)) (aC (eK (.str (Str.ofString ""))) (aC (zaj (aC (e2 jq (eV 0) (eK (.int 3))) (aC (zaj (aC (eK (.int 1)) (aC (eK (.str (Str.ofString "a"))) aN))) aN))) aN)))))))))) (qu (e2s z9 (eV 1) (e2 jq (e2 zdb (eV 0) (eK (.int 8))) (eK (.int 8))))))
def xr:G:=z5 2 1 zhf
def zhi:C :=
 (qa (q9 3 (zot aN)) (qa (zky 4 (eV 2) (qa (q9 5 (zm je (aC (eV 1) (aC (zm z8 (aC (eV 0) (aC (e2 ql (eK (.int 20)) (eV 4)) aN))) aN)))) (sIf (bE (e2 xy (jc [1,5] (zc7 (eV 3)) (bE (e2 xy (zm qi (aC (eV 1) (aC (eV 0) aN))) (zm qi (aC (eV 1) (aC (eV 2) aN))))) (eV 0)) (zly aN))) (zap (eV 3) (eV 5)) jw))) (qa (q9 3 (ze4 (eV 3) zyy 2 "_law_pairs" lt_1 [1])) (qu (jc [3,0] (zv0 (eA zce (aC (eV 3) aN))) zed (zaj (aC (e2s z9 (eV 1) (eV 0)) (aC (zm xr (aC (zm z8 (aC (eV 2) (aC (e2 ql (eK (.int 100)) (eV 0)) aN))) aN)) aN))))))))
def k9:G:=frz (z5 6 3 zhi)
def za2:C :=
 (qa (q9 2 (zv4 "Wood" "nodes_made" (eV 0))) (qa (zkz "Wood" "nodes_made" (eV 0) (e2 ql (eV 2) (eK (.int 1)))) (qu (e2 ql (zaj (aC (eV 2) aN)) (eV 1)))))
def ju:G:=z5 3 2 za2
def zz6:C :=
 (qa (sIf (bE (e2 zgi (eV 0) (eK .non))) (qu (eK .non)) jw) (qu (e2s z9 (eV 0) (eK (.int 8)))))
def zdw:G:=z5 1 1 zz6
def zro:C :=
 (qa (sIf (bE (e2 zgi (eV 0) (eK .non))) (qu (eK (.int 0))) jw) (qu (e2s z9 (eV 0) (eK (.int 6)))))
def jd:G:=z5 1 1 zro
def zvr:C :=
 (qa (sIf (bE (e2 zgi (eV 0) (eK .non))) (qu (eK .non)) jw) (qu (e2s z9 (eV 0) (eK (.int 7)))))
def y7:G:=z5 1 1 zvr
def zgd:C :=
 (qa (sIf (bE (e2 zgi (eV 1) (eK .non))) (qu (eK .non)) jw) (qa (q9 2 (zaj (aC (e2s z9 (eV 1) (eK (.int 2))) (aC (e2s z9 (eV 1) (eK (.int 3))) (aC (e2s z9 (eV 1) (eK (.int 4))) aN))))) (qu (x5 "Wood" "numbered" ju (eV 0) (aC (e2 ql (e2 ql (zaj (aC (zzs (e2s z9 (eV 1) (eK (.int 1)))) aN)) (eV 2)) (zaj (aC (zm xx (aC (eV 1) aN)) (aC (zm jd (aC (eV 1) aN)) (aC (zm zdw (aC (eV 1) aN)) (aC (zm y7 (aC (eV 1) aN)) aN)))))) aN)))))
def qk:G:=z5 3 2 zgd
def zhe:C :=
 (sIf (bE (e2 zjo (eV 0) (eK (.int 2000)))) zck jw)
def kx:G:=z5 1 1 zhe
def zbe:C :=
 (qu (e2 ql (eK (.int 1)) (eA zye (aC (zm jd (aC (eV 0) aN)) (aC (zm jd (aC (eV 1) aN)) aN)))))
def xm:G:=z5 2 2 zbe
def zco:C :=
 (qu (e2 zer (eA zv7 (aC (e2 zar (zm jd (aC (eV 0) aN)) (zm jd (aC (eV 1) aN))) aN)) (eK (.int 1))))
def j8:G:=z5 2 2 zco
def zcn:C :=
 (qu (e2 ql (e2 ql (zm xx (aC (eV 0) aN)) (eK (.int 1))) (zm xx (aC (eV 1) aN))))
def ku:G:=z5 2 2 zcn
def zej:C :=
 (qa (q9 4 (eV 2)) (qa (sIf (bE (e2 kg (eV 3) (eK .non))) (q9 4 (zag ft zjw (eV 0) (aC (zm zdw (aC (eV 3) aN)) (aC (eV 4) aN)))) jw) (qa (sIf (bE (e2 kg (eV 1) (eK .non))) (q9 4 (zag ft zjw (eV 0) (aC (eV 4) (aC (zm zdw (aC (eV 1) aN)) aN)))) jw) (qu (eV 4)))))
def yf:G:=z5 5 4 zej
def zhd:C :=
 (qa (q9 4 (eV 2)) (qa (sIf (bE (e2 kg (eV 1) (eK .non))) (q9 4 (zag ft zjw (eV 0) (aC (zm y7 (aC (eV 1) aN)) (aC (eV 4) aN)))) jw) (qa (sIf (bE (e2 kg (eV 3) (eK .non))) (q9 4 (zag ft zjw (eV 0) (aC (eV 4) (aC (zm y7 (aC (eV 3) aN)) aN)))) jw) (qu (eV 4)))))
def zav:G:=z5 5 4 zhd
def za0:C :=
 (qa (sIf (bE (e2 zgi (eV 0) (eK .non))) (qu (zaj (aC (eK .non) (aC (eK .non) aN)))) jw) (qu (zaj (aC (zm zav (aC (eV 0) (aC (eV 1) (aC (eV 2) (aC (eV 3) aN))))) (aC (zm yf (aC (eV 0) (aC (eV 1) (aC (eV 2) (aC (eV 3) aN))))) aN)))))
def xq:G:=z5 4 4 za0
def zit:C :=
 (qa (q9 4 (zm ku (aC (eV 1) (aC (eV 3) aN)))) (qa (zbf (zm kx (aC (eV 4) aN))) (qa (sIf (zel (bE (zm j8 (aC (eV 1) (aC (eV 3) aN))))) zck jw) (qa (q9 5 (zaj (aC (eV 4) (aC (zm xm (aC (eV 1) (aC (eV 3) aN))) aN)))) (qa (q9 6 (zm xq (aC (zv4 "Wood" "adding" (eV 0)) (aC (eV 1) (aC (eV 2) (aC (eV 3) aN)))))) (qu (x5 "Wood" "numbered" ju (eV 0) (aC (e2 ql (e2 ql (zaj (aC (eK (.bl false)) (aC (eV 1) (aC (eV 2) (aC (eV 3) aN))))) (eV 5)) (eV 6)) aN))))))))
def qd:G:=z5 7 4 zit
def zvs(self:G):C :=
 (qa (sIf (bE (e2 xy (eV 2) (eV 3))) (qu (eK .non)) jw) (qa (q9 4 (e2 zdb (e2 ql (eV 2) (eV 3)) (eK (.int 2)))) (qa (q9 5 (zm (self) (aC (eV 0) (aC (eV 1) (aC (eV 2) (aC (eV 4) aN)))))) (qa (q9 6 (zm (self) (aC (eV 0) (aC (eV 1) (aC (e2 ql (eV 4) (eK (.int 1))) (aC (eV 3) aN)))))) (qu (x5 "Wood" "node" qd (eV 0) (aC (eV 5) (aC (e2s z9 (eV 1) (eV 4)) (aC (eV 6) aN)))))))))
def zfw:Nat->G
 |0=>fun _ _=>none
 |k+1=>z5 7 4 (zvs (zfw k))
def zo4:C :=
 (qa (zbf (zm kx (aC (eA zce (aC (eV 1) aN)) aN))) (qu (zm (zfw 40) (aC (eV 0) (aC (eV 1) (aC (eK (.int 0)) (aC (eA zce (aC (eV 1) aN)) aN)))))))
def zaw:G:=z5 2 2 zo4
def zd7:C :=
 (sIf (zel (bE (zf3 zer zer zer (eK (.int 0)) (eV 1) (eV 2) (zm xx (aC (eV 0) aN))))) zck jw)
def kl:G:=z5 3 3 zd7
def zo3:C :=
 (qa (sIf (zel (bE (e2s z9 (eV 1) (eK (.int 1))))) (qu (zaj (aC (e2s z9 (eV 1) (eK (.int 2))) (aC (e2s z9 (eV 1) (eK (.int 3))) (aC (e2s z9 (eV 1) (eK (.int 4))) aN))))) jw) (qa (q9 2 (x5 "Wood" "turned" qk (eV 0) (aC (e2s z9 (eV 1) (eK (.int 4))) aN))) (qa (q9 3 (x5 "Wood" "turned" qk (eV 0) (aC (e2s z9 (eV 1) (eK (.int 2))) aN))) (qu (zaj (aC (eV 2) (aC (e2s z9 (eV 1) (eK (.int 3))) (aC (eV 3) aN))))))))
def xa:G:=z5 4 2 zo3
def zga:C :=
 (qa (q9 4 (zm xa (aC (eV 0) (aC (eV 1) aN)))) (qa (sIf (bE (e2 zsl (zm jd (aC (e2s z9 (eV 4) (eK (.int 0))) aN)) (zm jd (aC (e2s z9 (eV 4) (eK (.int 2))) aN)))) (qu (x5 "Wood" "node" qd (eV 0) (aC (e2s z9 (eV 4) (eK (.int 0))) (aC (e2s z9 (eV 4) (eK (.int 1))) (aC (x5 "Wood" "node" qd (eV 0) (aC (e2s z9 (eV 4) (eK (.int 2))) (aC (eV 2) (aC (eV 3) aN)))) aN))))) jw) (qa (q9 5 (zm xa (aC (eV 0) (aC (e2s z9 (eV 4) (eK (.int 2))) aN)))) (qa (q9 6 (x5 "Wood" "node" qd (eV 0) (aC (e2s z9 (eV 4) (eK (.int 0))) (aC (e2s z9 (eV 4) (eK (.int 1))) (aC (e2s z9 (eV 5) (eK (.int 0))) aN))))) (qa (q9 7 (x5 "Wood" "node" qd (eV 0) (aC (e2s z9 (eV 5) (eK (.int 2))) (aC (eV 2) (aC (eV 3) aN))))) (qu (x5 "Wood" "node" qd (eV 0) (aC (eV 6) (aC (e2s z9 (eV 5) (eK (.int 1))) (aC (eV 7) aN))))))))))
def y8:G:=z5 8 4 zga
def zeh:C :=
 (qa (q9 4 (zm xa (aC (eV 0) (aC (eV 3) aN)))) (qa (sIf (bE (e2 zsl (zm jd (aC (e2s z9 (eV 4) (eK (.int 2))) aN)) (zm jd (aC (e2s z9 (eV 4) (eK (.int 0))) aN)))) (qu (x5 "Wood" "node" qd (eV 0) (aC (x5 "Wood" "node" qd (eV 0) (aC (eV 1) (aC (eV 2) (aC (e2s z9 (eV 4) (eK (.int 0))) aN)))) (aC (e2s z9 (eV 4) (eK (.int 1))) (aC (e2s z9 (eV 4) (eK (.int 2))) aN))))) jw) (qa (q9 5 (zm xa (aC (eV 0) (aC (e2s z9 (eV 4) (eK (.int 0))) aN)))) (qa (q9 6 (x5 "Wood" "node" qd (eV 0) (aC (eV 1) (aC (eV 2) (aC (e2s z9 (eV 5) (eK (.int 0))) aN))))) (qa (q9 7 (x5 "Wood" "node" qd (eV 0) (aC (e2s z9 (eV 5) (eK (.int 2))) (aC (e2s z9 (eV 4) (eK (.int 1))) (aC (e2s z9 (eV 4) (eK (.int 2))) aN))))) (qu (x5 "Wood" "node" qd (eV 0) (aC (eV 6) (aC (e2s z9 (eV 5) (eK (.int 1))) (aC (eV 7) aN))))))))))
def yd:G:=z5 8 4 zeh
def zlt:C :=
 (qa (sIf (bE (zm j8 (aC (eV 1) (aC (eV 3) aN)))) (qu (x5 "Wood" "node" qd (eV 0) (aC (eV 1) (aC (eV 2) (aC (eV 3) aN))))) jw) (qa (sIf (bE (e2 zjo (zm jd (aC (eV 1) aN)) (zm jd (aC (eV 3) aN)))) (qu (zm y8 (aC (eV 0) (aC (eV 1) (aC (eV 2) (aC (eV 3) aN)))))) jw) (qu (zm yd (aC (eV 0) (aC (eV 1) (aC (eV 2) (aC (eV 3) aN))))))))
def j9:G:=z5 4 4 zlt
def zrn(self:G):C :=
 (qa (sIf (bE (zm j8 (aC (eV 1) (aC (eV 3) aN)))) (qu (x5 "Wood" "node" qd (eV 0) (aC (eV 1) (aC (eV 2) (aC (eV 3) aN))))) jw) (qa (sIf (bE (e2 zjo (zm jd (aC (eV 1) aN)) (zm jd (aC (eV 3) aN)))) (qa (q9 4 (zm xa (aC (eV 0) (aC (eV 1) aN)))) (qu (zm j9 (aC (eV 0) (aC (e2s z9 (eV 4) (eK (.int 0))) (aC (e2s z9 (eV 4) (eK (.int 1))) (aC (zm (self) (aC (eV 0) (aC (e2s z9 (eV 4) (eK (.int 2))) (aC (eV 2) (aC (eV 3) aN))))) aN))))))) jw) (qa (q9 4 (zm xa (aC (eV 0) (aC (eV 3) aN)))) (qu (zm j9 (aC (eV 0) (aC (zm (self) (aC (eV 0) (aC (eV 1) (aC (eV 2) (aC (e2s z9 (eV 4) (eK (.int 0))) aN))))) (aC (e2s z9 (eV 4) (eK (.int 1))) (aC (e2s z9 (eV 4) (eK (.int 2))) aN)))))))))
def x4:Nat->G
 |0=>fun _ _=>none
 |k+1=>z5 5 4 (zrn (x4 k))
def ziq(self:G):C :=
 (qa (sIf (bE (e2 xy (eV 2) (eK (.int 0)))) (qu (zaj (aC (eK .non) (aC (eV 1) aN)))) jw) (qa (sIf (bE (e2 xy (eV 2) (zm xx (aC (eV 1) aN)))) (qu (zaj (aC (eV 1) (aC (eK .non) aN)))) jw) (qa (q9 3 (zm xa (aC (eV 0) (aC (eV 1) aN)))) (qa (q9 4 (zm xx (aC (e2s z9 (eV 3) (eK (.int 0))) aN))) (qa (sIf (bE (e2 zer (eV 2) (eV 4))) (qa (q9 5 (zm (self) (aC (eV 0) (aC (e2s z9 (eV 3) (eK (.int 0))) (aC (eV 2) aN))))) (qu (zaj (aC (e2s z9 (eV 5) (eK (.int 0))) (aC (zm (x4 40) (aC (eV 0) (aC (e2s z9 (eV 5) (eK (.int 1))) (aC (e2s z9 (eV 3) (eK (.int 1))) (aC (e2s z9 (eV 3) (eK (.int 2))) aN))))) aN))))) jw) (qa (q9 5 (zm (self) (aC (eV 0) (aC (e2s z9 (eV 3) (eK (.int 2))) (aC (e2 zar (e2 zar (eV 2) (eV 4)) (eK (.int 1))) aN))))) (qu (zaj (aC (zm (x4 40) (aC (eV 0) (aC (e2s z9 (eV 3) (eK (.int 0))) (aC (e2s z9 (eV 3) (eK (.int 1))) (aC (e2s z9 (eV 5) (eK (.int 0))) aN))))) (aC (e2s z9 (eV 5) (eK (.int 1))) aN))))))))))
def kj:Nat->G
 |0=>fun _ _=>none
 |k+1=>z5 6 3 (ziq (kj k))
def za1(self:G):C :=
 (qa (sIf (bE (e2 zgi (eV 1) (eK .non))) (qu (eV 2)) jw) (qa (sIf (bE (e2 zgi (eV 2) (eK .non))) (qu (eV 1)) jw) (qu (zm (x4 40) (aC (eV 0) (aC (eV 1) (aC (zm (j7 40) (aC (eV 2) (aC (eK (.bl false)) (aC (eK (.int 0)) aN)))) (aC (zm (self) (aC (eV 0) (aC (eV 2) (aC (eK (.int 0)) aN)))) aN))))))))
def jm(self:G):G:=z5 3 3 (za1 self)
def zd6(self aux:G):C :=
 (qa (q9 3 (zm xa (aC (eV 0) (aC (eV 1) aN)))) (qa (q9 4 (zm xx (aC (e2s z9 (eV 3) (eK (.int 0))) aN))) (qa (sIf (bE (e2 zhq (eV 2) (eV 4))) (qu (zm j9 (aC (eV 0) (aC (zm (self) (aC (eV 0) (aC (e2s z9 (eV 3) (eK (.int 0))) (aC (eV 2) aN)))) (aC (e2s z9 (eV 3) (eK (.int 1))) (aC (e2s z9 (eV 3) (eK (.int 2))) aN)))))) jw) (qa (sIf (bE (e2 zjo (eV 2) (eV 4))) (qu (zm j9 (aC (eV 0) (aC (e2s z9 (eV 3) (eK (.int 0))) (aC (e2s z9 (eV 3) (eK (.int 1))) (aC (zm (self) (aC (eV 0) (aC (e2s z9 (eV 3) (eK (.int 2))) (aC (e2 zar (e2 zar (eV 2) (eV 4)) (eK (.int 1))) aN)))) aN)))))) jw) (qu (zm (aux) (aC (eV 0) (aC (e2s z9 (eV 3) (eK (.int 0))) (aC (e2s z9 (eV 3) (eK (.int 2))) aN)))))))))
def j5:Nat->G
 |0=>fun _ _=>none
 |k+1=>z5 5 3 (zd6 (j5 k) (jm (j5 k)))
def ki:G:=jm (j5 40)
def zf9:C :=
 (qa (zbf (zm kl (aC (eV 1) (aC (eV 2) (aC (eV 3) aN))))) (qa (q9 4 (zm (kj 40) (aC (eV 0) (aC (eV 1) (aC (eV 3) aN))))) (qa (q9 5 (zm (kj 40) (aC (eV 0) (aC (e2s z9 (eV 4) (eK (.int 0))) (aC (eV 2) aN))))) (qa (q9 6 (zm ki (aC (eV 0) (aC (e2s z9 (eV 5) (eK (.int 0))) (aC (x5 "Wood" "turned" qk (eV 0) (aC (e2s z9 (eV 5) (eK (.int 1))) aN)) aN))))) (qu (zm ki (aC (eV 0) (aC (eV 6) (aC (e2s z9 (eV 4) (eK (.int 1))) aN)))))))))
def y6:G:=z5 7 4 zf9
def zhh:C :=
 (qa (q9 3 (e2 jq (zm z8 (aC (eV 0) (aC (eK (.int 3)) aN))) (eK (.int 3)))) (qa (sIf (bE (e2 xy (eV 3) (eK (.int 0)))) (qu (zm zaw (aC (eV 1) (aC (zkc (aC (eV 2) aN)) aN)))) jw) (qa (sIf (bE (e2 xy (eV 3) (eK (.int 1)))) (qu (x5 "Wood" "turned" qk (eV 1) (aC (zm zaw (aC (eV 1) (aC (zb0 (eV 2)) aN))) aN))) jw) (qa (q9 4 (e2 jq (zm z8 (aC (eV 0) (aC (eK (.int 4)) aN))) (e2 ql (eA zce (aC (eV 2) aN)) (eK (.int 1))))) (qa (q9 5 (e2 ql (eV 4) (e2 jq (zm z8 (aC (eV 0) (aC (eK (.int 5)) aN))) (e2 zar (e2 ql (eA zce (aC (eV 2) aN)) (eK (.int 1))) (eV 4))))) (qa (q9 6 (zb0 (eSl (eV 2) (pE (eV 4)) (pE (eV 5))))) (qu (zm y6 (aC (eV 1) (aC (zm zaw (aC (eV 1) (aC (e2 ql (e2 ql (eSl (eV 2) pN (pE (eV 4))) (eV 6)) (eSl (eV 2) (pE (eV 5)) pN)) aN))) (aC (eV 4) (aC (eV 5) aN))))))))))))
def kz:G:=z5 7 3 zhh
def zrp(self:G):C :=
 (qa (sIf (bE (e2 zgi (eV 0) (eK .non))) zw1 jw) (qa (q9 3 (zm zg1 (aC (eV 0) (aC (eV 1) aN)))) (qa (zbf (zm (self) (aC (e2s z9 (eV 3) (eK (.int 0))) (aC (e2s z9 (eV 3) (eK (.int 3))) (aC (eV 2) aN))))) (qa (zap (eV 2) (e2s z9 (eV 3) (eK (.int 1)))) (zbf (zm (self) (aC (e2s z9 (eV 3) (eK (.int 2))) (aC (e2s z9 (eV 3) (eK (.int 3))) (aC (eV 2) aN)))))))))
def zcy:Nat->G
 |0=>fun _ _=>none
 |k+1=>z5 4 3 (zrp (zcy k))
def zd5:C :=
 (qa (q9 1 (zot aN)) (qa (zbf (zm (zcy 40) (aC (eV 0) (aC (eK (.bl false)) (aC (eV 1) aN))))) (qu (eV 1))))
def jt:G:=frz (z5 2 1 zd5)
def zo5:C :=
 (qu (zb1 [] (zc7 (zm jt (aC (eV 0) aN))) zed (e2s z9 (eV 0) (eK (.int 0)))))
def yq:G:=z5 1 1 zo5
def zio:C :=
 (qu (zb1 [] (zc7 (zm jt (aC (eV 0) aN))) zed (e2s z9 (eV 0) (eK (.int 1)))))
def xj:G:=z5 1 1 zio
end
end Pg
namespace Pg
open PySem L2 F Mt
class Kd (k:Nat):Prop where
 ne:k=0
variable {k:Nat} [Kd k] {S:Sto}
def fnm(_:Nat):Str:=""
def zbn(k:Nat):D:=if k=0 then .non else .fn (fnm k)
theorem z0f{x y:D}{n m:Nat}(hx:Th k n x)(hy:Th k m y)(hn:n+m<=4000):∃g,ft (fnm k)=some g/\∀S,g [x,y] S=some (ad k x y,S):=by have h4:=Kd.ne (k:=k);subst h4;exact hx.elim
end Pg
namespace Pg
open PySem L2 F Mt
variable {k:Nat} [Kd k] {d l r t:D}{ts lt rt:List D}{h lh rh:Nat}{S S1:Sto}{ev e:Ev}
theorem zr5(a b c d e f g h i:D)(S:Sto):xx [.tup [a,b,c,d,e,f,g,h,i]] S=some (f,S):=rfl
theorem zj4(a b c d e f g h i:D)(S:Sto):jd [.tup [a,b,c,d,e,f,g,h,i]] S=some (g,S):=rfl
theorem zmh(a b c d e f g h i:D)(S:Sto):y7 [.tup [a,b,c,d,e,f,g,h,i]] S=some (h,S):=rfl
theorem zta(a b c d e f g h i:D)(S:Sto):zdw [.tup [a,b,c,d,e,f,g,h,i]] S=some (i,S):=rfl
theorem ke(m:Mk k d ts h)(S:Sto):xx [d] S=some (.int ts.length,S):=by
 cases m with
 |non=>rfl
 |node _ _ _ _ _=>rw[mkD,zr5,xw];simp;omega
theorem qh(m:Mk k d ts h)(S:Sto):jd [d] S=some (.int h,S):=by
 cases m with
 |non=>rfl
 |node _ _ _ _ _=>rw[mkD,zj4]
theorem zi9(m:Mk k d ts h)(S:Sto):y7 [d] S=some (zcj k ts,S):=by
 cases m with
 |non=>rfl
 |node _ _ _ _ _=>rw[mkD,zmh]
theorem zo9(m:Mk k d ts h)(S:Sto):zdw [d] S=some (zcj k ts.reverse,S):=by
 cases m with
 |non=>rfl
 |node _ _ _ _ _=>rw[mkD,zta]
theorem zfi(ml:Mk k l lt lh)(mr:Mk k r rt rh)(S:Sto):ku [l,r] S=some (.int (lt.length+1+rt.length:Nat),S):=by simp[ku,z5,zcn,qu,e2,zm,aC,aN,eV,eK,ql,ke ml,ke mr]
theorem zdu(ml:Mk k l lt lh)(mr:Mk k r rt rh)(S:Sto):xm [l,r] S=some (.int (max lh rh+1:Nat),S):=by simp[xm,z5,zbe,qu,e2,zm,aC,aN,eV,eK,ql,eA,zye,qh ml,qh mr];split<;>omega
theorem y4(ml:Mk k l lt lh)(mr:Mk k r rt rh)(S:Sto):j8 [l,r] S=some (.bl (decide (lh<=rh+1/\rh<=lh+1)),S):=by simp[j8,z5,zco,qu,e2,zm,aC,aN,eV,eK,zar,zer,F.opI,zqk,eA,zv7,qh ml,qh mr];rw[qae];simp;split<;>omega
theorem ztg{a b:E}{x y:D}{n m:Nat}(hk:k≠0)(h0:ev[0]? = some (some (zbn k)))(ha:a ev S=some (x,S))(hb:b ev S=some (y,S))(hx:Th k n x)(hy:Th k m y)(hn:n+m<=4000):zag ft zjw (eV 0) (aC a (aC b aN)) ev S=some (ad k x y,S):=by
 obtain⟨g,hg,hc⟩:=z0f hx hy hn;have hav:zbn k=.fn (fnm k):=by simp[zbn,hk]
 unfold zag;rw[e_v h0];simp only[Option.bind_some,hav,hg,a_c ha (a_c hb a_n),hc]
theorem zkn{gs:G}{w:E->E}{p q:Nat}{x y:D}{xt yt:List D}(hk:k≠0)(ht:Thing k t)(hn:xt.length+1+yt.length<=2000)(hx:∀z∈xt,Thing k z)(hy:∀z∈yt,Thing k z)(ex:x=.non/\xt=[]\/xt≠[]/\∃xs,x=.tup xs)(ey:y=.non/\yt=[]\/yt≠[]/\∃ys,y=.tup ys)
   (ev0:Ev) (S:Sto) (e0:ev0[0]? = some (some (zbn k))) (et:ev0[2]? = some (some t)) (ep:ev0[p]? = some (some x)) (eq:ev0[q]? = some (some y)) (hl:ev0.length=5) (hp:p<4) (hq:q<4) (hx':∀ev:Ev,ev[p]? = some (some x)->w (eV p) ev S=some (zcj k xt,S)) (hy':∀ev:Ev,ev[q]? = some (some y)->w (eV q) ev S=some (zcj k yt,S)) :
   qa (q9 4 (eV 2)) (qa (sIf (bE (e2 kg (eV p) (eK .non))) (q9 4 (zag ft zjw (eV 0) (aC (w (eV p)) (aC (eV 4) aN)))) jw) (qa (sIf (bE (e2 kg (eV q) (eK .non))) (q9 4 (zag ft zjw (eV 0) (aC (eV 4) (aC (w (eV q)) aN)))) jw) (qu (eV 4)))) ev0 S=some (.rt (zcj k (xt++t::yt)),S):=by
 have tt:=ht.th hk;have g4:∀(d:D) (i:Nat),i<4->(ev0.set 4 (some d))[i]? = ev0[i]?:=fun d i hi=>z6j (by omega);have s4:∀(ev:Ev) (d:D),ev.length=5->(ev.set 4 (some d))[4]? = some (some d):=fun ev d h=>z51 (by omega);have ss:∀(d e:D),(ev0.set 4 (some d)).set 4 (some e)=ev0.set 4 (some e):=fun d e=>by simp
 have step2:∀(acc:D) (n:Nat),Th k n acc->n+yt.length<=2000->∀{res:D},(yt=[]->res=acc)->(yt≠[]->res=ad k acc (zcj k yt)) ->
     qa (sIf (bE (e2 kg (eV q) (eK .non))) (q9 4 (zag ft zjw (eV 0) (aC (eV 4) (aC (w (eV q)) aN)))) jw) (qu (eV 4)) (ev0.set 4 (some acc)) S=some (.rt res,S):=by
   intro acc n ha hb res r1 r2;rcases ey with⟨e1,e2'⟩ | ⟨e1,ys,e2'⟩
   · rw[r1 e2'];exact zi (zo (qo (e_2 (e_v (by rw[g4 _ _ hq,eq])) e_k (by rw[e1];rfl)))) (zw (e_v (s4 _ _ hl)))
   · rw[r2 e1];refine zi (qb (qo (e_2 (e_v (by rw[g4 _ _ hq,eq])) e_k (by rw[e2'];rfl))) (zq (ztg hk (by rw[g4 _ _ (by decide),e0]) (e_v (s4 _ _ hl)) (hy' _ (by rw[g4 _ _ hq,eq])) ha (zmi hk e1 hy) (by omega)))) (zw (e_v ?_));rw[ss];exact s4 _ _ hl
 refine zi (zq (e_v et)) ?_;rcases ex with⟨e1,e2'⟩ | ⟨e1,xs,e2'⟩
 · subst e2';refine zi (zo (qo (e_2 (e_v (by rw[g4 _ _ hp,ep])) e_k (by rw[e1];rfl)))) (step2 t 1 tt (by simp at hn;omega) (fun z=>by rw[z,List.nil_append,zbs hk]) fun z=>?_);rw[List.nil_append,show t::yt=[t]++yt from rfl,yx hk (by simp) z,zbs hk]
 · have t1:=zmi hk e1 hx;have e3:zcj k (xt++[t])=ad k (zcj k xt) t:=by rw[yx hk e1 (by simp),zbs hk]
   refine zi (qb (qo (e_2 (e_v (by rw[g4 _ _ hp,ep])) e_k (by rw[e2'];rfl))) (zq (ztg hk (by rw[g4 _ _ (by decide),e0]) (hx' _ (by rw[g4 _ _ hp,ep])) (e_v (s4 _ _ hl)) t1 tt (by omega)))) ?_;rw[ss];exact step2 _ _ (t1.ad tt) (by omega) (fun z=>by rw[z,e3]) fun z=>by rw[show xt++t::yt=(xt++[t])++yt by simp,yx hk (by simp) z,e3]
theorem zjs{xs:List D}(m:Mk k d ts h):d=.non/\ts=[]\/ts≠[]/\∃xs,d=.tup xs:=by
 cases m with
 |non=>exact .inl ⟨rfl,rfl⟩
 |node _ _ _ _ _=>exact .inr ⟨by intro z;have:=z64 List.length z;rw[xw]at this;simp at this,_,rfl⟩
theorem znk(hk:k≠0)(ml:Mk k l lt lh)(mr:Mk k r rt rh)(ht:Thing k t)(hn:lt.length+1+rt.length<=2000)(S:Sto) :
   zav [zbn k,l,t,r] S=some (zcj k (lt++t::rt),S) :=
 jv rfl (zkn (w:=fun x=>zm y7 (aC x aN)) (p:=1) (q:=3) (gs:=y7) hk ht hn ml.things mr.things (zjs (xs:=[]) ml) (zjs (xs:=[]) mr) _ S rfl rfl rfl rfl rfl (by decide) (by decide) (fun ev h=>zj (a_c (e_v h) a_n) (zi9 ml S)) (fun ev h=>zj (a_c (e_v h) a_n) (zi9 mr S)))
theorem ziy(hk:k≠0)(ml:Mk k l lt lh)(mr:Mk k r rt rh)(ht:Thing k t)(hn:lt.length+1+rt.length<=2000)(S:Sto) :
   yf [zbn k,l,t,r] S=some (zcj k (lt++t::rt).reverse,S):=by
 have rev:(lt++t::rt).reverse=rt.reverse++t::lt.reverse:=by simp
 have no:∀{d:D}{ts:List D},(d=.non/\ts=[]\/ts≠[]/\∃xs,d=.tup xs)->(d=.non/\ts.reverse=[]\/ts.reverse≠[]/\∃xs,d=.tup xs):=fun h=>by simpa using h
 rw[rev];exact jv rfl (zkn (w:=fun x=>zm zdw (aC x aN)) (p:=3) (q:=1) (gs:=y7) hk ht (by simp;omega) (fun z hz=>mr.things z (z73.mp hz)) (fun z hz=>ml.things z (z73.mp hz)) (no (zjs (xs:=[]) mr)) (no (zjs (xs:=[]) ml)) _ S rfl rfl rfl rfl rfl (by decide) (by decide) (fun ev h=>zj (a_c (e_v h) a_n) (zo9 mr S)) (fun ev h=>zj (a_c (e_v h) a_n) (zo9 ml S)))
theorem zfe(ml:Mk k l lt lh)(mr:Mk k r rt rh)(ht:Thing k t)(hn:lt.length+1+rt.length<=2000)(S:Sto) :
   xq [zbn k,l,t,r] S=some (.tup [zcj k (lt++t::rt),zcj k (lt++t::rt).reverse],S):=by
 by_cases hk:k=0
 · subst hk;simp[xq,z5,za0,zbn,qa,sIf,qu,bE,e2,eV,eK,zgi,znz,zaj,eA,aC,aN,zr3,zmm]
 · have o:=znk hk ml mr ht hn;have b:=ziy hk ml mr ht hn;have hav:zbn k=.fn (fnm k):=by simp[zbn,hk]
   rw[hav]at o b ⊢;simp only[xq,z5,za0];simp[qa,sIf,qu,jw,bE,e2,eV,eK,zgi,znz,zaj,eA,aC,aN,zr3,zm,o,b]
def wd(ad:D)(n:Int):MO:=.ins "Wood" [("adding",ad),("nodes_made",.int n)]
theorem na:((Str.ofString "nodes_made")==(Str.ofString "adding"))=false:=by decide +kernel
theorem na':¬ (Str.ofString "adding"=Str.ofString "nodes_made"):=by decide +kernel
theorem na2:((Str.ofString "numbered")==(Str.ofString "adding"))=false:=by decide +kernel
theorem na3:((Str.ofString "numbered")==(Str.ofString "nodes_made"))=false:=by decide +kernel
theorem na4:((Str.ofString "node")==(Str.ofString "adding"))=false:=by decide +kernel
theorem na5:((Str.ofString "node")==(Str.ofString "nodes_made"))=false:=by decide +kernel
theorem na8:((Str.ofString "turned")==(Str.ofString "adding"))=false:=by decide +kernel
theorem na9:((Str.ofString "turned")==(Str.ofString "nodes_made"))=false:=by decide +kernel
theorem zdc{i:Nat}{av:D}{n:Int}{xs:List D}(h:S[i]? = some (wd av n))(hl:1+xs.length<=sizeLine) :
   ju [.obj i,.tup xs] S=some (.tup (.int n::xs),S.set i (wd av (n+1))):=by
 have h1:(1:Nat)<=sizeLine:=by decide
 unfold wd at h ⊢;simp[ju,z5,za2,qa,q9,zv4,eV,zdt,h,zkz,e2,ql,eK,qu,zaj,aC,aN,eA,zsd,List.lookup,na,na',hl,h1]
def wfs(av:D)(n:Int):List (Str×D):=[("adding",av),("nodes_made",.int n)]
theorem qw{i:Nat}{av:D}{n:Int}(h:S[i]? = some (wd av n)):zdt (Str.ofString "Wood") S (.obj i)=some (i,wfs av n):=by simp[zdt,h,wd,wfs]
theorem xi(av:D)(n:Int):(wfs av n).lookup (Str.ofString "node")=none:=by simp[wfs,List.lookup,na4,na5]
theorem zbq(av:D)(n:Int):(wfs av n).lookup (Str.ofString "turned")=none:=by simp[wfs,List.lookup,na8,na9]
theorem zl8(av:D)(n:Int):(wfs av n).lookup (Str.ofString "adding")=some av:=by simp[wfs,List.lookup]
theorem zc5(av:D)(n:Int):(wfs av n).lookup (Str.ofString "numbered")=none:=by simp[wfs,List.lookup,na2,na3]
theorem zan{f:E}(h:f ev S=some (d,S1)):zbf f ev S=some (.nx ev,S1):=by simp[zbf,h]
theorem z01{N n:Nat}{c:C}{ds:List D}{S S':Sto}{e:Ev}(hl:ds.length=n)(h:c (ds.map some++List.replicate (N-ds.length) none) S=some (.nx e,S')):z5 N n c ds S=some (.non,S'):=by unfold z5;rw[z5g hl,h]
theorem z2a{x y:Int}(h:x<=y):zjo (.int x) (.int y)=some (.bl false):=by show some (D.bl (decide (y<x)))=_;rw[z5m (by omega)]
theorem zmy{m:Nat}(h:m<=2000)(S:Sto):kx [.int m] S=some (.non,S):=z01 rfl (zo (qo (e_2 (e_v rfl) e_k (z2a (by omega)))))
theorem zuv{i:Nat}{n:Int}(h:S[i]? = some (wd (zbn k) n))(ml:Mk k l lt lh)(mr:Mk k r rt rh)(ht:Thing k t)(h1:lh<=rh+1)(h2:rh<=lh+1)(hn:lt.length+1+rt.length<=2000) :
   qd [.obj i,l,t,r] S=some (mkD n false l t r (lt.length+1+rt.length:Nat) (max lh rh+1:Nat) (zcj k (lt++t::rt)) (zcj k (lt++t::rt).reverse),S.set i (wd (zbn k) (n+1))):=by
 have hz:sizeLine=16777216:=z6p;have q:=zfi ml mr S;have b:=y4 ml mr S;have hh:=zdu ml mr S;have sa:=zfe ml mr ht hn S;rw[z5w (show lh<=rh+1/\rh<=lh+1 from⟨h1,h2⟩)]at b;exact jv rfl (zi (zq (zj (a_c (e_v rfl) (a_c (e_v rfl) a_n)) q)) (zi (zan (zj (a_c (e_v rfl) a_n) (zmy hn S))) (zi (zo (ztc (qo (zj (a_c (e_v rfl) (a_c (e_v rfl) a_n)) b)))) (zi (zq (yi (a_c (e_v rfl) (a_c (zj (a_c (e_v rfl) (a_c (e_v rfl) a_n)) hh) a_n)) (by simp))) (zi (zq (zj (a_c (z2m (e_v rfl) (qw h) (zl8 _ _)) (a_c (e_v rfl) (a_c (e_v rfl) (a_c (e_v rfl) a_n)))) sa)) (zw (xf (e_v rfl) (qw h) (zc5 _ _) (a_c (e_2 (e_2 (yi (a_c e_k (a_c (e_v rfl) (a_c (e_v rfl) (a_c (e_v rfl) a_n)))) (by simp)) (e_v rfl) (zgg (by simp))) (e_v rfl) (zgg (by simp))) a_n) (zdc h (by simp;omega)))))))))
theorem zuw{n:Int}(ml:Mk k l lt lh)(mr:Mk k r rt rh)(ht:Thing k t)(h1:lh<=rh+1)(h2:rh<=lh+1) :
   Mk k (mkD n false l t r (lt.length+1+rt.length:Nat) (max lh rh+1:Nat) (zcj k (lt++t::rt)) (zcj k (lt++t::rt).reverse)) (lt++t::rt) (max lh rh+1):=by
 have:=Mk.node (num:=n) (a:=false) ml mr ht h1 h2;simpa [ord] using this
theorem zkp{i:Nat}:qk [.obj i,.non] S=some (.non,S):=rfl
theorem zpj{i:Nat}{n num:Int}{av:D}{a:Bool}{sz ht:Int}{to ba:D}(h:S[i]? = some (wd av n)) :
   qk [.obj i,mkD num a l t r sz ht to ba] S=some (mkD n (!a) l t r sz ht ba to,S.set i (wd av (n+1))):=by
 have hz:sizeLine=16777216:=z6p;unfold mkD;exact jv rfl (zi (zo (qo (e_2 (e_v rfl) e_k rfl))) (zi (zq (yi (a_c (qt (e_v rfl) e_k rfl) (a_c (qt (e_v rfl) e_k rfl) (a_c (qt (e_v rfl) e_k rfl) a_n))) (by simp))) (zw (xf (e_v rfl) (qw h) (zc5 _ _) (a_c (e_2 (e_2 (yi (a_c (zzq (qt (e_v rfl) e_k rfl)) a_n) (by simp)) (e_v rfl) (zgg (by simp))) (yi (a_c (zj (a_c (e_v rfl) a_n) (zr5 _ _ _ _ _ _ _ _ _ _)) (a_c (zj (a_c (e_v rfl) a_n) (zj4 _ _ _ _ _ _ _ _ _ _)) (a_c (zj (a_c (e_v rfl) a_n) (zta _ _ _ _ _ _ _ _ _ _)) (a_c (zj (a_c (e_v rfl) a_n) (zmh _ _ _ _ _ _ _ _ _ _)) a_n)))) (by simp)) (zgg (by simp))) a_n) (zdc h (by simp;omega))))))
theorem zmc{num n:Int}{a:Bool}{sz ht:Int}{to ba:D}(m:Mk k (mkD num a l t r sz ht to ba) ts h):Mk k (mkD n (!a) l t r sz ht ba to) ts.reverse h:=by
 generalize hd:mkD num a l t r sz ht to ba=d at m;cases m with
 |non=>cases hd
 | @node num' a' l' t' r' lt rt lh rh ml mr ht' h1 h2=>
   unfold mkD at hd;injection hd with hd;simp only[z67,D.int.injEq,D.bl.injEq,and_true]at hd;obtain⟨rfl,rfl,rfl,rfl,rfl,rfl,rfl,rfl,rfl⟩:=hd;have:=Mk.node (num:=n) (a:=!a) ml mr ht' h1 h2;have e:ord (!a) (lt++t::rt)=(ord a (lt++t::rt)).reverse:=by cases a<;>simp[ord]
   rw[e,z7v]at this;exact this
theorem zl7(S:Sto)(av:D):q0 [.obj S.length,av] (S++[.ins (Str.ofString "Wood") []])=some (.non,S++[wd av 0]):=by
 have q1:(S++[MO.ins (Str.ofString "Wood") []])[S.length]? = some (MO.ins (Str.ofString "Wood") []):=by simp
 have q2:∀a b:MO,(S++[a]).set S.length b=S++[b]:=by intro a b;simp
 have q3:∀a:MO,(S++[a])[S.length]? = some a:=by intro a;simp
 simp[q0,z5,ko,qa,zkz,eV,eK,zdt,zsd,na',wd,q1,q2,q3]
theorem ztk:zou (Str.ofString "Wood") (zv5 1 q0) aN ev S=some (.obj S.length,S++[wd .non 0]):=by have:=zl7 S .non;simp[zou,aN,zv5,this]
inductive Tnd (n:Int):D->D->Int->Prop where
 |non:Tnd n .non .non n
 |node {num:Int}{a:Bool}{l t r:D}{sz ht:Int}{to ba:D}:Tnd n (mkD num a l t r sz ht to ba) (mkD n (!a) l t r sz ht ba to) (n+1)
structure At (S S':Sto) (i:Nat) (av:D) (n n':Int):Prop where
 at_:S'[i]? = some (wd av n')
 le:n<=n'
 ne:∀j,j≠i->S'[j]? = S[j]?
 len:S'.length=S.length
theorem At.refl{i:Nat}{av:D}{n:Int}(h:S[i]? = some (wd av n)):At S S i av n n:=⟨h,Int.le_refl _,fun _ _=>rfl,rfl⟩
theorem At.set{i:Nat}{av:D}{n n':Int}(h:S[i]? = some (wd av n))(hn:n<=n'):At S (S.set i (wd av n')) i av n n':=⟨zmt h,hn,fun j hj=>zwx (z7e hj) _,by simp⟩
theorem At.trans {S2:Sto}{i:Nat}{av:D}{n n' n'':Int} (a:At S S1 i av n n') (b:At S1 S2 i av n' n''):At S S2 i av n n'':=⟨b.at_,Int.le_trans a.le b.le,fun j hj=>(b.ne j hj).trans (a.ne j hj),b.len.trans a.len⟩
theorem zb9{i:Nat}{av:D}{n:Int}(m:Mk k d ts h)(hw:S[i]? = some (wd av n)):∃d' n' S',qk [.obj i,d] S=some (d',S')/\Mk k d' ts.reverse h/\Tnd n d d' n'/\At S S' i av n n':=by
 have m0:=m;cases m with
 |non=>exact⟨.non,n,S,zkp,.non,.non,At.refl hw⟩
 |node ml mr ht h1 h2=>exact⟨_,_,_,zpj hw,zmc m0,.node,At.set hw (by omega)⟩
theorem zqg{i:Nat}{n num:Int}{av:D}{a:Bool}{sz ht:Int}{to ba:D}(m:Mk k (mkD num a l t r sz ht to ba) ts h)(hw:S[i]? = some (wd av n)) :
   ∃x y n' S' xt yt xh yh,xa [.obj i,mkD num a l t r sz ht to ba] S=some (.tup [x,t,y],S')/\At S S' i av n n'/\Mk k x xt xh/\Mk k y yt yh/\ts=xt++t::yt/\h=max xh yh+1/\xh<=yh+1/\yh<=xh+1/\Thing k t /\
     ((a=false/\x=l/\y=r/\n'=n/\S'=S)\/(a=true/\∃n1,Tnd n r x n1/\Tnd n1 l y n')):=by
 have hs:(3:Nat)<=16777216:=by decide
 generalize hd:mkD num a l t r sz ht to ba=d at m;cases m with
 |non=>cases hd
 | @node num' a' l' t' r' lt rt lh rh ml mr ht' h1 h2=>
   unfold mkD at hd;injection hd with hd;simp only[z67,D.int.injEq,D.bl.injEq,and_true]at hd;obtain⟨rfl,rfl,rfl,rfl,rfl,rfl,rfl,rfl,rfl⟩:=hd;generalize ((lt.length+1+rt.length:Nat):Int)=sz;generalize ((max lh rh+1:Nat):Int)=hh;generalize zcj k (ord a (lt++t::rt))=to;generalize zcj k (ord a (lt++t::rt)).reverse=ba;cases a
   · refine⟨l,r,n,S,lt,rt,lh,rh,?_,At.refl hw,ml,mr,rfl,rfl,h1,h2,ht',.inl ⟨rfl,rfl,rfl,rfl,rfl⟩⟩;rfl
   · obtain⟨x,n1,S1,c1,mx,t1,w1⟩:=zb9 mr hw;obtain⟨y,n2,S2,c2,my,t2,w2⟩:=zb9 ml w1.at_;refine⟨x,y,n2,S2,rt.reverse,lt.reverse,rh,lh,?_,w1.trans w2,mx,my,by simp[ord],by rw[Nat.max_comm],h2,h1,ht',.inr ⟨rfl,n1,t1,t2⟩⟩;have f0:zel (bE (e2s z9 (eV 1) (eK (.int 1)))) [some (.obj i),some (.tup [.int num,.bl true,l,t,r,.int sz,.int hh,to,ba]),none,none] S=some (false,S):=rfl;have f1:q9 2 (x5 "Wood" "turned" qk (eV 0) (aC (e2s z9 (eV 1) (eK (.int 4))) aN)) [some (.obj i),some (.tup [.int num,.bl true,l,t,r,.int sz,.int hh,to,ba]),none,none] S=some (.nx [some (.obj i),some (.tup [.int num,.bl true,l,t,r,.int sz,.int hh,to,ba]),some x,none],S1) :=
       zq (xf (e_v rfl) (qw hw) (zbq _ _) (a_c (qt (e_v rfl) e_k rfl) a_n) c1)
     have f2:q9 3 (x5 "Wood" "turned" qk (eV 0) (aC (e2s z9 (eV 1) (eK (.int 2))) aN)) [some (.obj i),some (.tup [.int num,.bl true,l,t,r,.int sz,.int hh,to,ba]),some x,none] S1=some (.nx [some (.obj i),some (.tup [.int num,.bl true,l,t,r,.int sz,.int hh,to,ba]),some x,some y],S2) :=
       zq (xf (e_v rfl) (qw w1.at_) (zbq _ _) (a_c (qt (e_v rfl) e_k rfl) a_n) c2)
     have f3:qu (zaj (aC (eV 2) (aC (e2s z9 (eV 1) (eK (.int 3))) (aC (eV 3) aN)))) [some (.obj i),some (.tup [.int num,.bl true,l,t,r,.int sz,.int hh,to,ba]),some x,some y] S2=some (.rt (.tup [x,t,y]),S2):=by unfold qu;rw[yi (a_c (e_v rfl) (a_c (qt (e_v rfl) e_k rfl) (a_c (e_v rfl) a_n))) (by simp)];rfl
     simp only[xa,z5,zo3,mkD];simp only[List.length_cons,List.length_nil,Nat.reduceAdd,z6s,z5a,List.map_nil,Nat.reduceSub,List.replicate,List.cons_append,List.nil_append];simp only[qa,sIf,f0,Option.bind_some,z47,z6b,jw,f1,f2,f3]
end Pg
namespace Pg
open PySem L2 F Mt
variable {k:Nat} [Kd k] {d l r t x y:D}{ts lt rt:List D}{h lh rh i:Nat}{n:Int}{S S0 S1:Sto}{ev e:Ev}{P Q:D->Prop}{a b new:List D}
def num:D->Int
 | .tup (.int n::_)=>n
 |_=>0
inductive All (P:D->Prop):D->Prop where
 |non:All P .non
 |node {m:Int}{a:Bool}{l t r:D}{sz ht:Int}{to ba:D}:P (mkD m a l t r sz ht to ba)->All P l->All P r->All P (mkD m a l t r sz ht to ba)
theorem All.inv{m:Int}{a:Bool}{sz ht:Int}{to ba:D}(h:All P (mkD m a l t r sz ht to ba)):All P l/\All P r:=by
 generalize e:mkD m a l t r sz ht to ba=d at h;cases h with
 |non=>cases e
 | node _ b c=>
   unfold mkD at e;injection e with e;simp only[z67,and_true]at e;obtain⟨_,_,rfl,_,rfl,_⟩:=e;exact⟨b,c⟩
theorem All.mono(h:All P d)(f:∀v,P v->Q v):All Q d:=by
 induction h with
 |non=>exact .non
 |node a _ _ b c=>exact .node (f _ a) b c
def Ac(P:D->Prop)(n:Int)(new:List D)(v:D):Prop:=P v\/∃j:Nat,new[j]? = some v/\num v=n+j
theorem Ac.app{v:D}(h:Ac P n a v):Ac P n (a++b) v:=h.imp id fun⟨j,h1,h2⟩=>⟨j,by rw[z5v (z42.mp h1).1,h1],h2⟩
theorem Ac.two{v:D}(h:Ac (Ac P n a) (n+a.length) b v):Ac P n (a++b) v:=by
 rcases h with h | ⟨j,h1,h2⟩
 · exact h.app
 · exact .inr ⟨a.length+j,by rw[z5i (z5d _ _),z62,h1],by omega⟩
theorem All.old(h:All P d):All (Ac P n a) d:=h.mono fun _=>.inl
theorem All.app(h:All (Ac P n a) d):All (Ac P n (a++b)) d:=h.mono fun _=>Ac.app
theorem All.two(h:All (Ac (Ac P n a) (n+a.length) b) d):All (Ac P n (a++b)) d:=h.mono fun _=>Ac.two
abbrev Wt(k i:Nat)(S:Sto)(n:Int)(new:List D)(S':Sto):Prop:=At S S' i (zbn k) n (n+new.length)
theorem Wt.nil(hw:S[i]? = some (wd (zbn k) n)):Wt k i S n [] S:=by have:=At.refl hw;unfold Wt;rw[show n+(([]:List D).length:Int)=n from qaf n];exact this
theorem Wt.two(w:Wt k i S0 n a S)(w':Wt k i S (n+a.length) b S1):Wt k i S0 n (a++b) S1:=by
 have:=At.trans w w';have e:n+(a.length:Int)+b.length=n+((a++b).length:Nat):=by rw[z4t];omega
 unfold Wt;rw[<-e];exact this
structure Top (a b h:Nat):Prop where
 l:a<h
 r:b<h
 e:h=a+1\/h=b+1
theorem zhx(a b:Nat):Top a b (max a b+1):=⟨by omega,by omega,by omega⟩
structure Res (k i:Nat) (S:Sto) (n:Int) (P:D->Prop) (ts:List D) (d:D) (h:Nat) (new:List D) (S':Sto):Prop where
 mm:Mk k d ts h
 wt:Wt k i S n new S'
 all:All (Ac P n new) d
theorem Res.after(w:Wt k i S0 n a S)(r:Res k i S (n+a.length) (Ac P n a) ts d h new S1):Res k i S0 n P ts d h (a++new) S1:=⟨r.mm,w.two r.wt,r.all.two⟩
theorem yn(hw:S[i]? = some (wd (zbn k) n))(ml:Mk k l lt lh)(mr:Mk k r rt rh)(ht:Thing k t)(h1:lh<=rh+1)(h2:rh<=lh+1)(hn:lt.length+1+rt.length<=2000)(al:All P l)(ar:All P r) :
   ∃d S' h,qd [.obj i,l,t,r] S=some (d,S')/\Res k i S n P (lt++t::rt) d h [d] S'/\Top lh rh h :=
 ⟨_,_,_,zuv hw ml mr ht h1 h2 hn,⟨zuw ml mr ht h1 h2,At.set hw (by omega),.node (.inr ⟨0,rfl,(qaf n).symm⟩) al.old ar.old⟩,zhx _ _⟩
theorem Tnd.ac{d':D}{n1:Int}(t:Tnd n d d' n1)(a:All P d):∃new:List D,n1=n+new.length/\All (Ac P n new) d'/\new.length<=1:=by
 cases t with
 |non=>exact⟨[],(qaf n).symm,.non,by simp⟩
 |node=>exact⟨[_],rfl,.node (.inr ⟨0,rfl,(qaf n).symm⟩) a.inv.1.old a.inv.2.old,by simp⟩
theorem zi7(m:Mk k d ts h)(hw:S[i]? = some (wd (zbn k) n))(al:All P d):∃d' new S',qk [.obj i,d] S=some (d',S')/\Res k i S n P ts.reverse d' h new S'/\new.length<=1:=by obtain⟨d',n',S',c,m',t,w⟩:=zb9 m hw;obtain⟨new,rfl,al',hl⟩:=t.ac al;exact⟨d',new,S',c,⟨m',w,al'⟩,hl⟩
structure Pts (k i:Nat) (S:Sto) (n:Int) (P:D->Prop) (ts:List D) (h:Nat) (x t y:D) (xt yt:List D) (xh yh:Nat) (new:List D) (S':Sto):Prop where
 wt:Wt k i S n new S'
 mx:Mk k x xt xh
 my:Mk k y yt yh
 ht:Thing k t
 hts:ts=xt++t::yt
 hh:Top xh yh h
 h1:xh<=yh+1
 h2:yh<=xh+1
 ax:All (Ac P n new) x
 ay:All (Ac P n new) y
 few:new.length<=2
theorem zaq(m:Mk k d ts h)(hh:0<h)(hw:S[i]? = some (wd (zbn k) n))(al:All P d) :
   ∃x t y xt yt xh yh new S',xa [.obj i,d] S=some (.tup [x,t,y],S')/\Pts k i S n P ts h x t y xt yt xh yh new S':=by
 have m0:=m;cases m with
 |non=>omega
 | @node num a l t r lt rt lh rh ml mr ht h1 h2=>
   obtain⟨x,y,n',S',xt,yt,xh,yh,c,w,mx,my,e1,e2,q1,q2,q3,q⟩:=zqg m0 hw;rcases q with⟨_,rfl,rfl,rfl,rfl⟩ | ⟨_,n1,t1,t2⟩
   · exact⟨x,t,y,xt,yt,xh,yh,[],_,c,⟨Wt.nil hw,mx,my,q3,e1,e2▸zhx _ _,q1,q2,al.inv.1.old,al.inv.2.old,by simp⟩⟩
   · obtain⟨a1,rfl,b1,c1⟩:=t1.ac al.inv.2;obtain⟨a2,rfl,b2,c2⟩:=t2.ac (al.inv.1.old (n:=n) (a:=a1));refine⟨x,t,y,xt,yt,xh,yh,a1++a2,S',c,⟨?_,mx,my,q3,e1,e2▸zhx _ _,q1,q2,b1.app,b2.two,by rw[z4t];omega⟩⟩;have e:n+(a1.length:Int)+a2.length=n+((a1++a2).length:Nat):=by rw[z4t];omega
     unfold Wt;rw[<-e];exact w
theorem z0t(x y:Nat):zsl (.int x) (.int y)=some (.bl (decide (y<=x))):=z64 (fun b=>some (D.bl b)) (z6i.mpr Int.ofNat_le)
theorem zv2(x y:Nat):zjo (.int x) (.int y)=some (.bl (decide (y<x))):=z64 (fun b=>some (D.bl b)) (z6i.mpr qad)
theorem z0o(a b c:List D):(a++t::b).length+1+c.length=a.length+1+(b++x::c).length:=by simp only[z4t,List.length_cons];omega
theorem z02(a b c:List D):a++t::(b++x::c)=a++t::b++x::c:=by simp
theorem zyg{a b:List D}{m:Nat}(h:(a++t::b).length+1+m<=2000):b.length+1+m<=2000:=by simp only[z4t,List.length_cons]at h;omega
theorem zyf{a b:List D}{m:Nat}(h:m+1+(a++t::b).length<=2000):m+1+a.length<=2000:=by simp only[z4t,List.length_cons]at h;omega
theorem z3h{a:List D}(h:a.length<=2):(a++[x]++[y]).length<=7:=by simp only[z4t,List.length_cons,List.length_nil];omega
theorem z3g{a b:List D}(h:a.length<=2)(h':b.length<=2):(a++b++[x]++[y]++[t]).length<=7:=by simp only[z4t,List.length_cons,List.length_nil];omega
theorem z3f{a b c:List D}{f:Nat}(h:a.length<=2)(h':b.length<=9*f+1)(h3:c.length<=7):(a++b++c).length<=9*(f+1)+1:=by simp only[z4t];omega
theorem z15{a b c:List D}{m:Nat}(h:(a++t::(b++x::c)).length+1+m<=2000):a.length+1+b.length<=2000:=by simp only[z4t,List.length_cons]at h;omega
theorem z14{a b c:List D}{m:Nat}(h:(a++t::(b++x::c)).length+1+m<=2000):c.length+1+m<=2000:=by simp only[z4t,List.length_cons]at h;omega
theorem z13{a b c e:List D}(h:(a++t::(b++x::c)).length+1+e.length<=2000):(a++t::b).length+1+(c++y::e).length<=2000:=by simp only[z4t,List.length_cons]at h ⊢;omega
theorem z12{a b c:List D}{m:Nat}(h:m+1+(a++t::b++x::c).length<=2000):m+1+a.length<=2000:=by simp only[z4t,List.length_cons]at h;omega
theorem z11{a b c:List D}{m:Nat}(h:m+1+(a++t::b++x::c).length<=2000):b.length+1+c.length<=2000:=by simp only[z4t,List.length_cons]at h;omega
theorem z10{a b c e:List D}(h:e.length+1+(a++t::b++x::c).length<=2000):(e++y::a).length+1+(b++x::c).length<=2000:=by simp only[z4t,List.length_cons]at h ⊢;omega
theorem z4n(a b c e:List D):a++t::b++x::(c++y::e)=a++t::(b++x::c)++y::e:=by simp
theorem z4m(a b c e:List D):a++t::b++x::(c++y::e)=a++t::(b++x::c++y::e):=by simp
theorem up1{xh yh rh lh:Nat}(hh:lh=rh+2)(p:Top xh yh lh)(q1:xh<=yh+1)(q2:yh<=xh+1)(hg:yh<=xh):yh<=rh+1/\rh<=yh+1/\∀g,Top yh rh g->(xh<=g+1/\g<=xh+1/\∀z,Top xh g z->lh<=z/\z<=lh+1):=by obtain⟨p1,p2,p3⟩:=p;refine⟨by omega,by omega,fun g ⟨g1,g2,g3⟩=>⟨by omega,by omega,fun z ⟨z1,z2,z3⟩=>⟨by omega,by omega⟩⟩⟩
theorem up2{xh yh rh lh xh' yh':Nat}(hh:lh=rh+2)(p:Top xh yh lh)(q1:xh<=yh+1)(q2:yh<=xh+1)(hg:¬ yh<=xh)(p':Top xh' yh' yh)(q3:xh'<=yh'+1)(q4:yh'<=xh'+1) :
   (xh<=xh'+1/\xh'<=xh+1)/\(yh'<=rh+1/\rh<=yh'+1)/\∀g g',Top xh xh' g->Top yh' rh g'->(g<=g'+1/\g'<=g+1/\∀z,Top g g' z->lh<=z/\z<=lh+1):=by
 obtain⟨p1,p2,p3⟩:=p;obtain⟨p4,p5,p6⟩:=p';have e1:xh=rh:=by omega
 have e2:yh=rh+1:=by omega
 subst e1 e2;refine⟨⟨by omega,by omega⟩,⟨by omega,by omega⟩,fun g g' ⟨g1,g2,g3⟩ ⟨g4,g5,g6⟩=>?_⟩;have e3:g=xh+1:=by omega
 have e4:g'=xh+1:=by omega
 subst e3 e4;exact⟨by omega,by omega,fun z ⟨z1,z2,z3⟩=>⟨by omega,by omega⟩⟩
theorem Top.sym{a b h:Nat}(p:Top a b h):Top b a h:=⟨p.r,p.l,p.e.symm⟩
theorem zef(hw:S[i]? = some (wd (zbn k) n))(ml:Mk k l lt lh)(mr:Mk k r rt rh)(ht:Thing k t)(hh:lh=rh+2)(hn:lt.length+1+rt.length<=2000)(al:All P l)(ar:All P r) :
   ∃d h new S',y8 [.obj i,l,t,r] S=some (d,S')/\Res k i S n P (lt++t::rt) d h new S'/\(lh<=h/\h<=lh+1)/\new.length<=7:=by
 obtain⟨x,u,y,xt,yt,xh,yh,w1,S1,c1,p⟩:=zaq ml (by omega) hw al;have e1:=p.hts;subst e1;have e2:=p.hh;have f1:=p.few;by_cases hg:yh<=xh
 · obtain⟨k1,k2,k3⟩:=up1 hh p.hh p.h1 p.h2 hg;have hge:zsl (.int xh) (.int yh)=some (.bl true):=by rw[z0t,z5w hg]
   clear hg;obtain⟨d1,S2,g1,c2,r2,t2⟩:=yn p.wt.at_ p.my mr ht k1 k2 (zyg hn) p.ay ar.old;have r2:=r2.after p.wt;obtain⟨k4,k5,k6⟩:=k3 _ t2;obtain⟨d2,S3,g2,c3,r3,t3⟩:=yn r2.wt.at_ p.mx r2.mm p.ht k4 k5 (by rw[<-z0o];exact hn) p.ax.app r2.all;have r3:=r3.after r2.wt;exact⟨d2,_,_,S3,jv rfl (zi (zq (zj (a_c (e_v rfl) (a_c (e_v rfl) a_n)) c1)) (qj (qb (qo (e_2 (zj (a_c (qt (e_v rfl) e_k rfl) a_n) (qh p.mx S1)) (zj (a_c (qt (e_v rfl) e_k rfl) a_n) (qh p.my S1)) hge)) (zw (xf (e_v rfl) (qw p.wt.at_) (xi _ _) (a_c (qt (e_v rfl) e_k rfl) (a_c (qt (e_v rfl) e_k rfl) (a_c (xf (e_v rfl) (qw p.wt.at_) (xi _ _) (a_c (qt (e_v rfl) e_k rfl) (a_c (e_v rfl) (a_c (e_v rfl) a_n))) c2) a_n))) c3))))),z02 xt yt rt▸r3,k6 _ t3,z3h f1⟩
 · have hge:zsl (.int xh) (.int yh)=some (.bl false):=by rw[z0t,z5m hg]
   obtain⟨x',v,y',xt',yt',xh',yh',w2,S2,c2,p2⟩:=zaq p.my (by omega) p.wt.at_ p.ay;have e3:=p2.hts;subst e3;obtain⟨⟨k1,k2⟩,⟨k3,k4⟩,k5⟩:=up2 hh p.hh p.h1 p.h2 hg p2.hh p2.h1 p2.h2;have f2:=p2.few;clear hg e2;have wt2:=p.wt.two p2.wt;obtain⟨d1,S3,g1,c3,r3,t3⟩:=yn wt2.at_ p.mx p2.mx p.ht k1 k2 (z15 hn) p.ax.app p2.ax.two;have r3:=r3.after wt2;obtain⟨d2,S4,g2,c4,r4,t4⟩:=yn r3.wt.at_ p2.my mr ht k3 k4 (z14 hn) p2.ay.two.app ar.old;have r4:=r4.after r3.wt;obtain⟨k6,k7,k8⟩:=k5 _ _ t3 t4;obtain⟨d3,S5,g3,c5,r5,t5⟩:=yn r4.wt.at_ r3.mm r4.mm p2.ht k6 k7 (z13 hn) r3.all.app r4.all;have r5:=r5.after r4.wt;exact⟨d3,_,_,S5,jv rfl (zi (zq (zj (a_c (e_v rfl) (a_c (e_v rfl) a_n)) c1)) (zi (zo (qo (e_2 (zj (a_c (qt (e_v rfl) e_k rfl) a_n) (qh p.mx S1)) (zj (a_c (qt (e_v rfl) e_k rfl) a_n) (qh p.my S1)) hge))) (zi (zq (zj (a_c (e_v rfl) (a_c (qt (e_v rfl) e_k rfl) a_n)) c2)) (zi (zq (xf (e_v rfl) (qw wt2.at_) (xi _ _) (a_c (qt (e_v rfl) e_k rfl) (a_c (qt (e_v rfl) e_k rfl) (a_c (qt (e_v rfl) e_k rfl) a_n))) c3)) (zi (zq (xf (e_v rfl) (qw r3.wt.at_) (xi _ _) (a_c (qt (e_v rfl) e_k rfl) (a_c (e_v rfl) (a_c (e_v rfl) a_n))) c4)) (zw (xf (e_v rfl) (qw r4.wt.at_) (xi _ _) (a_c (e_v rfl) (a_c (qt (e_v rfl) e_k rfl) (a_c (e_v rfl) a_n))) c5))))))),z4n xt xt' yt' rt▸r5,k8 _ t5,z3g f1 f2⟩
theorem zdh(hw:S[i]? = some (wd (zbn k) n))(ml:Mk k l lt lh)(mr:Mk k r rt rh)(ht:Thing k t)(hh:rh=lh+2)(hn:lt.length+1+rt.length<=2000)(al:All P l)(ar:All P r) :
   ∃d h new S',yd [.obj i,l,t,r] S=some (d,S')/\Res k i S n P (lt++t::rt) d h new S'/\(rh<=h/\h<=rh+1)/\new.length<=7:=by
 obtain⟨x,u,y,xt,yt,xh,yh,w1,S1,c1,p⟩:=zaq mr (by omega) hw ar;have e1:=p.hts;subst e1;have e2:=p.hh;have f1:=p.few;by_cases hg:xh<=yh
 · obtain⟨k1,k2,k3⟩:=up1 hh p.hh.sym p.h2 p.h1 hg;have hge:zsl (.int yh) (.int xh)=some (.bl true):=by rw[z0t,z5w hg]
   clear hg;obtain⟨d1,S2,g1,c2,r2,t2⟩:=yn p.wt.at_ ml p.mx ht k2 k1 (zyf hn) al.old p.ax;have r2:=r2.after p.wt;obtain⟨k4,k5,k6⟩:=k3 _ t2.sym;obtain⟨d2,S3,g2,c3,r3,t3⟩:=yn r2.wt.at_ r2.mm p.my p.ht k5 k4 (by rw[z0o];exact hn) r2.all p.ay.app;have r3:=r3.after r2.wt;exact⟨d2,_,_,S3,jv rfl (zi (zq (zj (a_c (e_v rfl) (a_c (e_v rfl) a_n)) c1)) (qj (qb (qo (e_2 (zj (a_c (qt (e_v rfl) e_k rfl) a_n) (qh p.my S1)) (zj (a_c (qt (e_v rfl) e_k rfl) a_n) (qh p.mx S1)) hge)) (zw (xf (e_v rfl) (qw p.wt.at_) (xi _ _) (a_c (xf (e_v rfl) (qw p.wt.at_) (xi _ _) (a_c (e_v rfl) (a_c (e_v rfl) (a_c (qt (e_v rfl) e_k rfl) a_n))) c2) (a_c (qt (e_v rfl) e_k rfl) (a_c (qt (e_v rfl) e_k rfl) a_n))) c3))))),(z02 lt xt yt).symm▸r3,k6 _ t3.sym,z3h f1⟩
 · have hge:zsl (.int yh) (.int xh)=some (.bl false):=by rw[z0t,z5m hg]
   obtain⟨x',v,y',xt',yt',xh',yh',w2,S2,c2,p2⟩:=zaq p.mx (by omega) p.wt.at_ p.ax;have e3:=p2.hts;subst e3;obtain⟨⟨k1,k2⟩,⟨k3,k4⟩,k5⟩:=up2 hh p.hh.sym p.h2 p.h1 hg p2.hh.sym p2.h2 p2.h1;have f2:=p2.few;clear hg e2;have wt2:=p.wt.two p2.wt;obtain⟨d1,S3,g1,c3,r3,t3⟩:=yn wt2.at_ ml p2.mx ht k4 k3 (z12 hn) al.old p2.ax.two;have r3:=r3.after wt2;obtain⟨d2,S4,g2,c4,r4,t4⟩:=yn r3.wt.at_ p2.my p.my p.ht k2 k1 (z11 hn) p2.ay.two.app p.ay.app.app;have r4:=r4.after r3.wt;obtain⟨k6,k7,k8⟩:=k5 _ _ t4.sym t3.sym;obtain⟨d3,S5,g3,c5,r5,t5⟩:=yn r4.wt.at_ r3.mm r4.mm p2.ht k7 k6 (z10 hn) r3.all.app r4.all;have r5:=r5.after r4.wt;exact⟨d3,_,_,S5,jv rfl (zi (zq (zj (a_c (e_v rfl) (a_c (e_v rfl) a_n)) c1)) (zi (zo (qo (e_2 (zj (a_c (qt (e_v rfl) e_k rfl) a_n) (qh p.my S1)) (zj (a_c (qt (e_v rfl) e_k rfl) a_n) (qh p.mx S1)) hge))) (zi (zq (zj (a_c (e_v rfl) (a_c (qt (e_v rfl) e_k rfl) a_n)) c2)) (zi (zq (xf (e_v rfl) (qw wt2.at_) (xi _ _) (a_c (e_v rfl) (a_c (e_v rfl) (a_c (qt (e_v rfl) e_k rfl) a_n))) c3)) (zi (zq (xf (e_v rfl) (qw r3.wt.at_) (xi _ _) (a_c (qt (e_v rfl) e_k rfl) (a_c (qt (e_v rfl) e_k rfl) (a_c (qt (e_v rfl) e_k rfl) a_n))) c4)) (zw (xf (e_v rfl) (qw r4.wt.at_) (xi _ _) (a_c (e_v rfl) (a_c (qt (e_v rfl) e_k rfl) (a_c (e_v rfl) a_n))) c5))))))),z4m lt xt' yt' yt▸r5,k8 _ t5.sym,z3g f1 f2⟩
structure Hi (a b h:Nat):Prop where
 l:a<=h
 r:b<=h
 m:∀z,a<=z->b<=z->h<=z+1
theorem Top.hi{a b h:Nat}(p:Top a b h):Hi a b h:=⟨z6u p.l,z6u p.r,fun z h1 h2=>by rcases p.e with rfl | rfl<;>omega⟩
theorem zbl(hw:S[i]? = some (wd (zbn k) n))(ml:Mk k l lt lh)(mr:Mk k r rt rh)(ht:Thing k t)(h1:lh<=rh+2)(h2:rh<=lh+2)(hn:lt.length+1+rt.length<=2000)(al:All P l)(ar:All P r) :
   ∃d h new S',j9 [.obj i,l,t,r] S=some (d,S')/\Res k i S n P (lt++t::rt) d h new S'/\Hi lh rh h/\(lh<=rh+1->rh<=lh+1->Top lh rh h)/\new.length<=7:=by
 have bl:=y4 ml mr S;by_cases hb:lh<=rh+1/\rh<=lh+1
 · rw[z5w hb]at bl;obtain⟨d1,S1,g1,c1,r1,t1⟩:=yn hw ml mr ht hb.1 hb.2 hn al ar;exact⟨d1,_,_,S1,jv rfl (qj (qb (qo (zj (a_c (e_v rfl) (a_c (e_v rfl) a_n)) bl)) (zw (xf (e_v rfl) (qw hw) (xi _ _) (a_c (e_v rfl) (a_c (e_v rfl) (a_c (e_v rfl) a_n))) c1)))),r1,t1.hi,fun _ _=>t1,z5l rfl⟩
 · rw[z5m hb]at bl;by_cases hg:rh<lh
   · have e:lh=rh+2:=by omega
     obtain⟨d1,h,w,S1,c1,r1,⟨q1,q2⟩,q3⟩:=zef hw ml mr ht e hn al ar;exact⟨d1,h,w,S1,jv rfl (zi (zo (qo (zj (a_c (e_v rfl) (a_c (e_v rfl) a_n)) bl))) (qj (qb (qo (e_2 (zj (a_c (e_v rfl) a_n) (qh ml S)) (zj (a_c (e_v rfl) a_n) (qh mr S)) (by rw[zv2,z5w hg]))) (zw (zj (a_c (e_v rfl) (a_c (e_v rfl) (a_c (e_v rfl) (a_c (e_v rfl) a_n)))) c1))))),r1,⟨q1,z5j (z6u hg) q1,fun z z1 z2=>z5j q2 (qaa z1)⟩,fun u v=>absurd ⟨u,v⟩ hb,q3⟩
   · have e:rh=lh+2:=by omega
     obtain⟨d1,h,w,S1,c1,r1,⟨q1,q2⟩,q3⟩:=zdh hw ml mr ht e hn al ar;exact⟨d1,h,w,S1,jv rfl (zi (zo (qo (zj (a_c (e_v rfl) (a_c (e_v rfl) a_n)) bl))) (zi (zo (qo (e_2 (zj (a_c (e_v rfl) a_n) (qh ml S)) (zj (a_c (e_v rfl) a_n) (qh mr S)) (by rw[zv2,z5m hg])))) (zw (zj (a_c (e_v rfl) (a_c (e_v rfl) (a_c (e_v rfl) (a_c (e_v rfl) a_n)))) c1)))),r1,⟨z5j (z8r.mp hg) q1,q1,fun z z1 z2=>z5j q2 (qaa z2)⟩,fun u v=>absurd ⟨u,v⟩ hb,q3⟩
theorem dn1{a b h z c:Nat}(p:Top a b h)(q1:a<=b+1)(q2:b<=a+1)(hz:z+2<=h)(j:Hi b z c):a<=c+2/\c<=a+2:=by obtain⟨p1,p2,p3⟩:=p;have:=j.l;have:=j.m (b) (z4v _) (by omega);omega
theorem dn2{a b h z c g:Nat}(p:Top a b h)(q1:a<=b+1)(q2:b<=a+1)(hz:z+2<=h)(j:Hi b z c)(q:Hi a c g)(w:a<=c+1->c<=a+1->Top a c g):Hi h z g:=by
 obtain⟨p1,p2,p3⟩:=p;have c1:=j.l;have c2:=j.m b (z4v _) (by omega);have g1:=q.l;have g2:=q.r;have:h<=g/\g<=h+1:=by
   by_cases hb:a<=c+1/\c<=a+1
   · obtain⟨w1,w2,w3⟩:=w hb.1 hb.2;omega
   · have g3:=q.m c (by omega) (z4v _);omega
 exact⟨this.1,by omega,fun y y1 _=>z5j this.2 (qaa y1)⟩
theorem dn3{a b h z f:Nat}(p:Top a b h)(q1:a<=b+1)(q2:b<=a+1)(hz:z+2<=h)(hf:h<=z+(f+1)):b<=z+f/\z<=b+f:=by obtain⟨p1,p2,p3⟩:=p;omega
theorem Hi.sym{a b h:Nat}(p:Hi a b h):Hi b a h:=⟨p.r,p.l,fun z u v=>p.m z v u⟩
theorem zau:∀(f c:Nat) {l r:D}{lt rt:List D}{lh rh:Nat}{n:Int}{S:Sto}{P:D->Prop},S[i]? = some (wd (zbn k) n)->Mk k l lt lh->Mk k r rt rh->Thing k t->lt.length+1+rt.length<=2000->All P l->All P r->lh<=rh+c->rh<=lh+c->c<f ->
   ∃d h new S',x4 f [.obj i,l,t,r] S=some (d,S')/\Res k i S n P (lt++t::rt) d h new S'/\Hi lh rh h/\(lh<=rh+1->rh<=lh+1->Top lh rh h)/\new.length<=9*c+1
 |0,_,_,_,_,_,_,_,_,_,_,_,_,_,_,_,_,_,_,_,hf=>absurd hf (z8y _)
 | f+1,c,l,r,lt,rt,lh,rh,n,S,P,hw,ml,mr,ht,hn,al,ar,hc1,hc2,hf=>by
   have bl:=y4 ml mr S;by_cases hb:lh<=rh+1/\rh<=lh+1
   · rw[z5w hb]at bl;obtain⟨d1,S1,g1,c1,r1,t1⟩:=yn hw ml mr ht hb.1 hb.2 hn al ar;exact⟨d1,_,_,S1,jv rfl (qj (qb (qo (zj (a_c (e_v rfl) (a_c (e_v rfl) a_n)) bl)) (zw (xf (e_v rfl) (qw hw) (xi _ _) (a_c (e_v rfl) (a_c (e_v rfl) (a_c (e_v rfl) a_n))) c1)))),r1,t1.hi,fun _ _=>t1,Nat.le_add_left _ _⟩
   · rw[z5m hb]at bl;cases c with
     |zero=>omega
     | succ c=>
       by_cases hg:rh<lh
       · have hz:rh+2<=lh:=by omega
         clear hc2;obtain⟨x,u,y,xt,yt,xh,yh,w1,S1,c1,p⟩:=zaq ml (z6o (z5y _) hg) hw al;have e1:=p.hts;subst e1;obtain⟨k1,k2⟩:=dn3 p.hh p.h1 p.h2 hz hc1;obtain⟨d1,g1,w2,S2,c2,r2,b1,b0,b2⟩:=zau f c p.wt.at_ p.my mr ht (zyg hn) p.ay ar.old k1 k2 (Nat.lt_of_succ_lt_succ hf);have r2:=r2.after p.wt;obtain⟨k3,k4⟩:=dn1 p.hh p.h1 p.h2 hz b1;obtain⟨d2,g2,w3,S3,c3,r3,b5,b6,b7⟩:=zbl r2.wt.at_ p.mx r2.mm p.ht k3 k4 (by rw[<-z0o];exact hn) p.ax.app r2.all;have r3:=r3.after r2.wt;exact⟨d2,g2,_,S3,jv rfl (zi (zo (qo (zj (a_c (e_v rfl) (a_c (e_v rfl) a_n)) bl))) (qj (qb (qo (e_2 (zj (a_c (e_v rfl) a_n) (qh ml S)) (zj (a_c (e_v rfl) a_n) (qh mr S)) (by rw[zv2,z5w hg]))) (zi (zq (zj (a_c (e_v rfl) (a_c (e_v rfl) a_n)) c1)) (zw (zj (a_c (e_v rfl) (a_c (qt (e_v rfl) e_k rfl) (a_c (qt (e_v rfl) e_k rfl) (a_c (zj (a_c (e_v rfl) (a_c (qt (e_v rfl) e_k rfl) (a_c (e_v rfl) (a_c (e_v rfl) a_n)))) c2) a_n)))) c3)))))),z02 xt yt rt▸r3,dn2 p.hh p.h1 p.h2 hz b1 b5 b6,fun u v=>absurd ⟨u,v⟩ hb,z3f p.few b2 b7⟩
       · have hz:lh+2<=rh:=by omega
         clear hc1;obtain⟨x,u,y,xt,yt,xh,yh,w1,S1,c1,p⟩:=zaq mr (z4w (by decide) (z5j (Nat.le_add_left 2 lh) hz)) hw ar;have e1:=p.hts;subst e1;obtain⟨k1,k2⟩:=dn3 p.hh.sym p.h2 p.h1 hz hc2;obtain⟨d1,g1,w2,S2,c2,r2,b1,b0,b2⟩:=zau f c p.wt.at_ ml p.mx ht (zyf hn) al.old p.ax k2 k1 (Nat.lt_of_succ_lt_succ hf);have r2:=r2.after p.wt;obtain⟨k3,k4⟩:=dn1 p.hh.sym p.h2 p.h1 hz b1.sym;obtain⟨d2,g2,w3,S3,c3,r3,b5,b6,b7⟩:=zbl r2.wt.at_ r2.mm p.my p.ht k4 k3 (by rw[z0o];exact hn) r2.all p.ay.app;have r3:=r3.after r2.wt;exact⟨d2,g2,_,S3,jv rfl (zi (zo (qo (zj (a_c (e_v rfl) (a_c (e_v rfl) a_n)) bl))) (zi (zo (qo (e_2 (zj (a_c (e_v rfl) a_n) (qh ml S)) (zj (a_c (e_v rfl) a_n) (qh mr S)) (by rw[zv2,z5m hg])))) (zi (zq (zj (a_c (e_v rfl) (a_c (e_v rfl) a_n)) c1)) (zw (zj (a_c (e_v rfl) (a_c (zj (a_c (e_v rfl) (a_c (e_v rfl) (a_c (e_v rfl) (a_c (qt (e_v rfl) e_k rfl) a_n)))) c2) (a_c (qt (e_v rfl) e_k rfl) (a_c (qt (e_v rfl) e_k rfl) a_n)))) c3))))),(z02 lt xt yt).symm▸r3,(dn2 p.hh.sym p.h2 p.h1 hz b1.sym b5.sym fun u v=>(b6 v u).sym).sym,fun u v=>absurd ⟨u,v⟩ hb,z3f p.few b2 b7⟩
end Pg
namespace Pg
open PySem L2 F Mt
variable {k:Nat} [Kd k] {d l r t x y:D}{ts lt rt:List D}{h lh rh i:Nat}{n:Int}{S S0 S1:Sto}{ev e:Ev}{P Q:D->Prop}{a b new:List D}
theorem z3a(x y:Nat):zhq (.int x) (.int y)=some (.bl (decide (x<y))):=z64 (fun b=>some (D.bl b)) (z6i.mpr qad)
theorem z3c(x y:Nat):zer (.int x) (.int y)=some (.bl (decide (x<=y))):=z64 (fun b=>some (D.bl b)) (z6i.mpr Int.ofNat_le)
theorem z1y{x y:Nat}(h:x<y):zhq (.int x) (.int y)=some (.bl true):=by rw[z3a,z5w h]
theorem z1z{x y:Nat}(h:¬ x<y):zhq (.int x) (.int y)=some (.bl false):=by rw[z3a,z5m h]
theorem zyh{x y:Nat}(h:x<=y):zer (.int x) (.int y)=some (.bl true):=by rw[z3c,z5w h]
theorem z4b{x y:Nat}(h:¬ x<=y):zer (.int x) (.int y)=some (.bl false):=by rw[z3c,z5m h]
theorem z4g{x y:Nat}(h:y<x):zjo (.int x) (.int y)=some (.bl true):=by rw[zv2,z5w h]
theorem z3e{x y:Nat}(h:¬ y<x):zjo (.int x) (.int y)=some (.bl false):=by rw[zv2,z5m h]
theorem z2l{x y:Nat}(h:x=y):xy (.int x) (.int y)=some (.bl true):=by rw[zor,h];simp
theorem z0z{x y:Nat}(h:x≠y):xy (.int x) (.int y)=some (.bl false):=by rw[zor];simp;omega
theorem zs0{f g:E}{p m q:Nat}(hf:f ev S=some (.int p,S))(hg:g ev S=some (.int m,S))(hq:p=m+1+q):e2 zar (e2 zar f g) (eK (.int 1)) ev S=some (.int q,S) :=
 e_2 (e_2 hf hg (sub_int _ _)) e_k (by rw[sub_int,show(p:Int)-m-1=q by omega])
def HB(m h:Nat):Prop:=m<2^h/\2^h<=2*m+1
theorem zu6{m a b:Nat}(hm:0<m)(ha:HB (m/2) a)(hb:HB ((m-1)/2) b):a<=b+1/\b<=a+1/\∀h,Top a b h->HB m h:=by
 obtain⟨a1,a2⟩:=ha;obtain⟨b1,b2⟩:=hb;have h1:b<=a:=by
   rcases z60 a b with q | q
   · have:=z9g (n:=2) (by decide) (show a+1<=b from q);rw[Nat.pow_succ]at this;omega
   · exact q
 have h2:a<=b+1:=by
   rcases z60 (b+1) a with q | q
   · have:=z9g (n:=2) (by decide) (show b+1+1<=a from q);rw[Nat.pow_succ,Nat.pow_succ]at this;omega
   · exact q
 refine⟨h2,by omega,fun h ⟨_,_,e⟩=>?_⟩;have e:h=a+1:=by omega
 subst e;unfold HB;rw[Nat.pow_succ];cases a with
 |zero=>rw[Nat.pow_zero]at a1 a2 ⊢;omega
 |succ a=>rw[Nat.pow_succ]at a1 a2 ⊢;omega
theorem z0b(p a c:List D):atI (p++a++t::c) (((p.length+a.length:Nat)):Int)=some t:=zbm (by rw[z5i (by simp),z4t];simp)
theorem halves:∀{ts:List D},ts≠[]->∃a t b,ts=a++t::b/\a.length=ts.length/2/\b.length=(ts.length-1)/2:=fun {ts} h=>by
 have hl:0<ts.length:=z9p.mpr h;have hm:ts.length/2<ts.length:=by omega
 refine⟨ts.take (ts.length/2),ts[ts.length/2],ts.drop (ts.length/2+1),?_,?_,?_⟩
 · rw[<-z6v hm,z6e]
 · rw[z49];omega
 · rw[z5o];omega
theorem zge:∀(f:Nat) {p ts q:List D}{n:Int}{S:Sto}{P:D->Prop},S[i]? = some (wd (zbn k) n)->(∀x∈ts,Thing k x)->ts.length<=2000->ts.length<2^f->∀{s e:Nat},s=p.length->e=p.length+ts.length ->
   ∃d h new S',zfw (f+1) [.obj i,.lst (p++ts++q),.int s,.int e] S=some (d,S')/\Res k i S n P ts d h new S'/\HB ts.length h
 | f,p,ts,q,n,S,P,hw,ht,hl,hf,s,e,hs,he=>by
   by_cases h0:ts=[]
   · subst h0;refine⟨.non,0,[],S,jv rfl (qj (qb (qo (e_2 (e_v rfl) (e_v rfl) (z2l (by simp[hs,he])))) (zw e_k))),⟨.non,Wt.nil hw,.non⟩,by decide,by decide⟩
   · obtain⟨a,t,b,e0,la,lb⟩:=halves h0;have hlen:0<ts.length:=z9p.mpr h0;cases f with
     |zero=>rw[Nat.pow_zero]at hf;omega
     | succ f=>
       rw[Nat.pow_succ]at hf;obtain⟨d1,h1,w1,S1,c1,r1,b1⟩:=zge f (p:=p) (ts:=a) (q:=t::b++q) (P:=P) hw (fun x hx=>ht x (by rw[e0];exact z6a _ hx)) (by omega) (by omega) hs rfl;obtain⟨d2,h2,w2,S2,c2,r2,b2⟩:=zge f (p:=p++a++[t]) (ts:=b) (q:=q) (P:=Ac P n w1) r1.wt.at_ (fun x hx=>ht x (by rw[e0];exact z44 _ (z40 _ hx))) (by omega) (by omega) (s:=p.length+a.length+1) (e:=e) (by simp;omega) (by simp;omega);have r2:=r2.after r1.wt;rw[la]at b1;rw[lb]at b2;obtain⟨q1,q2,q3⟩:=zu6 hlen b1 b2;have e1:p++a++(t::b++q)=p++ts++q:=by rw[e0];simp
       have e2:p++a++[t]++b++q=p++ts++q:=by rw[e0];simp
       have e3:p++ts++q=p++a++t::(b++q):=by rw[e0];simp
       rw[e1]at c1;rw[e2]at c2;obtain⟨d3,S3,h3,c3,r3,t3⟩:=yn r2.wt.at_ r1.mm r2.mm (ht t (by rw[e0];simp)) q1 q2 (by omega) r1.all.app r2.all;have r3:=r3.after r2.wt;rw[<-e0]at r3;have em:zdb (.int ((s:Int)+e)) (.int 2)=some (.int ((p.length+a.length:Nat):Int)):=by rw[zll (by decide),show((s:Int)+e)/2=((p.length+a.length:Nat):Int) by omega]
       exact⟨d3,h3,_,S3,jv rfl (zi (zo (qo (e_2 (e_v rfl) (e_v rfl) (z0z (by omega))))) (zi (zq (e_2 (e_2 (e_v rfl) (e_v rfl) (add_int _ _)) e_k em)) (zi (zq (zj (a_c (e_v rfl) (a_c (e_v rfl) (a_c (e_v rfl) (a_c (e_v rfl) a_n)))) c1)) (zi (zq (zj (a_c (e_v rfl) (a_c (e_v rfl) (a_c (e_2 (e_v rfl) e_k (add_int _ _)) (a_c (e_v rfl) a_n)))) c2)) (zw (xf (e_v rfl) (qw r2.wt.at_) (xi _ _) (a_c (e_v rfl) (a_c (qt (e_v rfl) (e_v rfl) (by rw[e3];exact z0b _ _ _)) (a_c (e_v rfl) a_n))) c3)))))),r3,q3 _ t3⟩
theorem zcd(hw:S[i]? = some (wd (zbn k) n))(ht:∀x∈ts,Thing k x)(hl:ts.length<=2000):∃d h new S',zaw [.obj i,.lst ts] S=some (d,S')/\Res k i S n P ts d h new S':=by obtain⟨d,h,new,S1,c,r,_⟩:=zge (i:=i) (k:=k) 39 (p:=[]) (ts:=ts) (q:=[]) (P:=P) hw ht hl (z6o hl (by decide)) (s:=0) (e:=ts.length) rfl (by simp);rw[List.nil_append,z5q]at c;exact⟨d,h,new,S1,jv rfl (zi (zan (zj (a_c (e_a (a_c (e_v rfl) a_n) rfl) a_n) (zmy hl S))) (zw (zj (a_c (e_v rfl) (a_c (e_v rfl) (a_c e_k (a_c (e_a (a_c (e_v rfl) a_n) rfl) a_n)))) c))),r⟩
theorem zzo(a b:Bool):xy (.bl a) (.bl b)=some (.bl (a==b)):=rfl
structure Seen (k:Nat) (us:List D) (h:Nat) (x t y:D) (c:Bool) (xt yt:List D) (xh yh:Nat):Prop where
 mx:Mk k x xt xh
 my:Mk k y yt yh
 ht:Thing k t
 hu:us=ord c xt++t::ord c yt
 hx:xh<h
 hy:yh<h
theorem zh2(m:Mk k d ts h)(hh:0<h)(b:Bool)(S:Sto):∃x t y c xt yt xh yh,zg1 [d,.bl b] S=some (.tup [x,t,y,.bl c],S)/\Seen k (ord b ts) h x t y c xt yt xh yh:=by
 cases m with
 |non=>omega
 | @node num a l t r lt rt lh rh ml mr ht h1 h2=>
   unfold mkD;by_cases e:a=b
   · subst e;exact⟨l,t,r,false,lt,rt,lh,rh,jv rfl (qj (qb (qo (e_2 (qt (e_v rfl) e_k rfl) (e_v rfl) (by rw[zzo];simp))) (zw (yi (a_c (qt (e_v rfl) e_k rfl) (a_c (qt (e_v rfl) e_k rfl) (a_c (qt (e_v rfl) e_k rfl) (a_c e_k a_n)))) (z5l rfl))))),ml,mr,ht,by cases a<;>simp[ord],by omega,by omega⟩
   · exact⟨r,t,l,true,rt,lt,rh,lh,jv rfl (zi (zo (qo (e_2 (qt (e_v rfl) e_k rfl) (e_v rfl) (by rw[zzo];simp[e])))) (zw (yi (a_c (qt (e_v rfl) e_k rfl) (a_c (qt (e_v rfl) e_k rfl) (a_c (qt (e_v rfl) e_k rfl) (a_c e_k a_n)))) (z5l rfl)))),mr,ml,ht,by cases a<;>cases b<;>simp_all [ord],by omega,by omega⟩
theorem zdd(m:Mk k d ts h)(hl:ts≠[]):0<h:=by
 cases m with
 |non=>exact absurd rfl hl
 |node _ _ _ _ _=>omega
theorem zx9{p:Nat}(h:ts[p]? = some x):ts≠[]:=fun e=>by rw[e]at h;cases h
theorem zsj{c:Bool}(h:ord c ts≠[]):ts≠[]:=fun e=>h (by rw[e];cases c<;>rfl)
theorem yw:∀(f:Nat) {d:D}{ts:List D}{h p:Nat}{b:Bool},Mk k d ts h->h<=f->(ord b ts)[p]? = some x->∀S,j7 f [d,.bl b,.int p] S=some (x,S)
 |0,d,ts,h,p,b,m,hf,hp,S=>absurd (zdd m (zsj (zx9 hp))) (z8r.mpr hf)
 | f+1,d,ts,h,p,b,m,hf,hp,S=>by
   obtain⟨u,t,y,c,xt,yt,xh,yh,c1,s⟩:=zh2 m (zdd m (zsj (zx9 hp))) b S;have hu:=s.hu;rw[hu]at hp;have lx:=xw c xt;have hx:=s.hx;have hy:=s.hy;have c2:=ke s.mx S;by_cases h1:p<xt.length
   · rw[z5v (by omega)]at hp;exact jv rfl (zi (zq (zj (a_c (e_v rfl) (a_c (e_v rfl) a_n)) c1)) (zi (zq (zj (a_c (qt (e_v rfl) e_k rfl) a_n) c2)) (qj (qb (qo (e_2 (e_v rfl) (e_v rfl) (z1y h1))) (zw (zj (a_c (qt (e_v rfl) e_k rfl) (a_c (qt (e_v rfl) e_k rfl) (a_c (e_v rfl) a_n))) (yw f s.mx (by omega) hp S)))))))
   · rw[z5i (by omega),lx]at hp;by_cases h2:xt.length<p
     · have e:p=xt.length+1+(p-xt.length-1):=by omega
       rw[show p-xt.length=(p-xt.length-1)+1 by omega,List.getElem?_cons_succ]at hp;exact jv rfl (zi (zq (zj (a_c (e_v rfl) (a_c (e_v rfl) a_n)) c1)) (zi (zq (zj (a_c (qt (e_v rfl) e_k rfl) a_n) c2)) (zi (zo (qo (e_2 (e_v rfl) (e_v rfl) (z1z h1)))) (qj (qb (qo (e_2 (e_v rfl) (e_v rfl) (z4g h2))) (zw (zj (a_c (qt (e_v rfl) e_k rfl) (a_c (qt (e_v rfl) e_k rfl) (a_c (zs0 (e_v rfl) (e_v rfl) e) a_n))) (yw f s.my (by omega) hp S))))))))
     · rw[show p-xt.length=0 by omega,List.getElem?_cons_zero]at hp;cases hp;exact jv rfl (zi (zq (zj (a_c (e_v rfl) (a_c (e_v rfl) a_n)) c1)) (zi (zq (zj (a_c (qt (e_v rfl) e_k rfl) a_n) c2)) (zi (zo (qo (e_2 (e_v rfl) (e_v rfl) (z1z h1)))) (zi (zo (qo (e_2 (e_v rfl) (e_v rfl) (z3e h2)))) (zw (qt (e_v rfl) e_k rfl))))))
end Pg
namespace Pg
open PySem L2 F Mt
variable {k:Nat} [Kd k] {d l r t x y:D}{ts lt rt:List D}{h lh rh i:Nat}{n:Int}{S S0 S1:Sto}{ev e:Ev}{P Q:D->Prop}{a b new:List D}
theorem zyc(m:Mk k d [] h):d=.non/\h=0:=by
 generalize e:([]:List D)=ts at m;cases m with
 |non=>exact⟨rfl,rfl⟩
 |node _ _ _ _ _=>exact absurd (z64 List.length e) (by rw[xw];simp)
theorem h15(m:Mk k d ts h)(hl:ts.length<=2000):h<=15:=by
 have q:=zyd m;rcases z60 15 h with z | z
 · have:low 16<=low h:=zfo z;have e:low 16=2583:=by decide
   omega
 · exact z
theorem o1{xh yh h g:Nat}(p:Top xh yh h)(q1:xh<=yh+1)(q2:yh<=xh+1)(g1:g<=xh)(g2:xh<=g+1):(g<=yh+2/\yh<=g+2)/\∀z,Hi g yh z->(g<=yh+1->yh<=g+1->Top g yh z)->z<=h/\h<=z+1:=by
 obtain⟨p1,p2,p3⟩:=p;refine⟨⟨by omega,by omega⟩,fun z hz ht=>?_⟩;by_cases hb:g<=yh+1/\yh<=g+1
 · obtain⟨t1,t2,t3⟩:=ht hb.1 hb.2;omega
 · have:=hz.r;have:=hz.m yh (by omega) (z4v _);omega
theorem z2e{a b c:List D}{m xh yh h:Nat}(p:Top xh yh h)(h1:a.length<=2)(h2:b.length<=9*xh+m)(h3:c.length<=7):(a++b++c).length<=9*h+m:=by have:=p.l;simp only[z4t];omega
theorem znm:¬ (0:Nat)<0:=by decide
theorem zu3{self:G}(S:Sto):jm self [.obj i,.non,y] S=some (y,S):=rfl
theorem znh:∀(f:Nat) {d u:D}{rest:List D}{h:Nat}{n:Int}{S:Sto}{P:D->Prop},S[i]? = some (wd (zbn k) n)->Mk k d (u::rest) h->rest.length<2000->All P d->h<=f ->
   ∃d' h' new S',j5 f [.obj i,d,.int (0:Nat)] S=some (d',S')/\Res k i S n P rest d' h' new S'/\(h'<=h/\h<=h'+1)/\new.length<=9*h
 |0,_,_,_,_,_,_,_,_,m,_,_,hf=>absurd (zdd m (by simp)) (z8r.mpr hf)
 | f+1,d,u,rest,h,n,S,P,hw,m,hl,al,hf=>by
   obtain⟨x,v,y,xt,yt,xh,yh,w1,S1,c1,p⟩:=zaq m (zdd m (by simp)) hw al;have e1:=p.hts;have c2:=ke p.mx S1;cases xt with
   | nil=>
     obtain⟨rfl,rfl⟩:=zyc p.mx;simp only[List.nil_append,z67]at e1;obtain⟨rfl,rfl⟩:=e1;have e:h=yh+1:=by have:=p.hh.l;have:=p.hh.r;have:=p.hh.e;omega
     exact⟨y,yh,w1,S1,jv rfl (zi (zq (zj (a_c (e_v rfl) (a_c (e_v rfl) a_n)) c1)) (zi (zq (zj (a_c (qt (e_v rfl) e_k rfl) a_n) c2)) (zi (zo (qo (e_2 (e_v rfl) (e_v rfl) (z1z znm)))) (zi (zo (qo (e_2 (e_v rfl) (e_v rfl) (z3e znm)))) (zw (zj (a_c (e_v rfl) (a_c (qt (e_v rfl) e_k rfl) (a_c (qt (e_v rfl) e_k rfl) a_n))) (zu3 S1))))))),⟨p.my,p.wt,p.ay⟩,⟨by omega,by omega⟩,by have:=p.few;omega⟩
   | cons u' xt=>
     simp only[List.cons_append,z67]at e1;obtain⟨rfl,rfl⟩:=e1;simp only[z4t,List.length_cons]at hl;have hx:=p.hh.l;obtain⟨d1,g,w2,S2,c3,r2,⟨b1,b2⟩,b3⟩:=znh f p.wt.at_ p.mx (by omega) p.ax (by omega);have r2:=r2.after p.wt;obtain⟨⟨k1,k2⟩,k3⟩:=o1 p.hh p.h1 p.h2 b1 b2;obtain⟨d2,g2,w3,S3,c4,r3,b5,b6,b7⟩:=zbl r2.wt.at_ r2.mm p.my p.ht k1 k2 (by omega) r2.all p.ay.app;have r3:=r3.after r2.wt;exact⟨d2,g2,_,S3,jv rfl (zi (zq (zj (a_c (e_v rfl) (a_c (e_v rfl) a_n)) c1)) (zi (zq (zj (a_c (qt (e_v rfl) e_k rfl) a_n) c2)) (qj (qb (qo (e_2 (e_v rfl) (e_v rfl) (z1y (Nat.zero_lt_succ _)))) (zw (zj (a_c (e_v rfl) (a_c (zj (a_c (e_v rfl) (a_c (qt (e_v rfl) e_k rfl) (a_c (e_v rfl) a_n))) c3) (a_c (qt (e_v rfl) e_k rfl) (a_c (qt (e_v rfl) e_k rfl) a_n)))) c4)))))),r3,k3 _ b5 b6,z2e (m:=0) p.hh p.few b3 b7⟩
theorem hi0(h:Nat):Hi 0 h h:=⟨z5y _,z4v _,fun z _ q=>Nat.le_succ_of_le q⟩
theorem ld1{lh rh g c:Nat}(g1:g<=rh)(g2:rh<=g+1)(c1:lh<=rh+c)(c2:rh<=lh+c):lh<=g+(c+1)/\g<=lh+(c+1):=by omega
theorem ld2{lh rh g z:Nat}(g1:g<=rh)(g2:rh<=g+1)(h:Hi lh g z)(w:lh<=g+1->g<=lh+1->Top lh g z)(c1:lh<=rh+1)(c2:rh<=lh+1):Hi lh rh z:=by
 refine⟨h.l,?_,fun y y1 y2=>h.m y y1 (by omega)⟩;by_cases hb:lh<=g+1/\g<=lh+1
 · obtain⟨t1,t2,t3⟩:=w hb.1 hb.2;omega
 · have:=h.l;omega
theorem zi8(m:Mk k d ts h):(d=.non/\ts=[]/\h=0)\/((∃xs,d=.tup xs)/\∃u rest,ts=u::rest):=by
 cases m with
 |non=>exact .inl ⟨rfl,rfl,rfl⟩
 | @node num a l t r lt rt lh rh _ _ _ _ _=>
   refine .inr ⟨⟨_,rfl⟩,?_⟩;cases e:ord a (lt++t::rt) with
   |nil=>exact absurd (z64 List.length e) (by rw[xw];simp)
   |cons u rest=>exact⟨u,rest,rfl⟩
theorem zj1(xs:List D):zgi (.tup xs) .non=some (.bl false):=rfl
theorem zu2{f c:Nat}(hw:S[i]? = some (wd (zbn k) n))(ml:Mk k l lt lh)(mr:Mk k r rt rh)(hn:lt.length+rt.length<=2000)(al:All P l)(ar:All P r)(hf:rh<=f)(c1:lh<=rh+c)(c2:rh<=lh+c) :
   ∃d h new S',jm (j5 f) [.obj i,l,r] S=some (d,S')/\Res k i S n P (lt++rt) d h new S'/\(lh<=rh+1->rh<=lh+1->Hi lh rh h)/\new.length<=9*rh+9*c+10:=by
 rcases zi8 ml with⟨rfl,rfl,rfl⟩ | ⟨⟨xs,rfl⟩,u0,r0,rfl⟩
 · exact⟨r,rh,[],S,rfl,⟨mr,Wt.nil hw,ar.old⟩,fun _ _=>hi0 rh,z5y _⟩
 · rcases zi8 mr with⟨rfl,rfl,rfl⟩ | ⟨⟨ys,rfl⟩,u,rest,rfl⟩
   · exact⟨_,lh,[],S,rfl,⟨by rw[z5q];exact ml,Wt.nil hw,al.old⟩,fun _ _=>(hi0 lh).sym,z5y _⟩
   · simp only[List.length_cons]at hn;have l15:=h15 ml (by simp only[List.length_cons];omega);have r15:=h15 mr (by simp only[List.length_cons];omega);obtain⟨d1,g,w1,S1,q1,r1,⟨b1,b2⟩,b3⟩:=znh f hw mr (by omega) ar hf;have at0:=yw (x:=u) 40 (b:=false) (p:=0) mr (by omega) rfl S;have hj:∃c',c'<40/\c'<=c+1/\lh<=g+c'/\g<=lh+c':=by
       obtain⟨z1,z2⟩:=ld1 b1 b2 c1 c2;rcases z60 c 30 with q | q
       · exact⟨c+1,by omega,z4v _,z1,z2⟩
       · exact⟨16,by decide,by omega,by omega,by omega⟩
     obtain⟨c',j1,j2,j3,j4⟩:=hj;obtain⟨d2,g2,w2,S2,q2,r2,b5,b6,b7⟩:=zau 40 c' r1.wt.at_ ml r1.mm (mr.things u (z5c ..)) (by simp only[List.length_cons];omega) al.old r1.all j3 j4 j1;have r2:=r2.after r1.wt;exact⟨d2,g2,_,S2,jv rfl (zi (zo (qo (e_2 (e_v rfl) e_k (zj1 _)))) (zi (zo (qo (e_2 (e_v rfl) e_k (zj1 _)))) (zw (zj (a_c (e_v rfl) (a_c (e_v rfl) (a_c (zj (a_c (e_v rfl) (a_c e_k (a_c e_k a_n))) at0) (a_c (zj (a_c (e_v rfl) (a_c (e_v rfl) (a_c e_k a_n))) q1) a_n)))) q2)))),r2,ld2 b1 b2 b5 b6,by simp only[z4t];omega⟩
end Pg
namespace Pg
open PySem L2 F Mt
variable {k:Nat} [Kd k] {d l r t x y:D}{ts lt rt:List D}{h lh rh i:Nat}{n:Int}{S S0 S1:Sto}{ev e:Ev}{P Q:D->Prop}{a b new:List D}
structure Cut (k i:Nat) (S:Sto) (n:Int) (P:D->Prop) (lt rt:List D) (h:Nat) (x y:D) (xh yh:Nat) (new:List D) (S':Sto):Prop where
 wt:Wt k i S n new S'
 mx:Mk k x lt xh
 my:Mk k y rt yh
 hx:xh<=h
 hy:yh<=h
 ax:All (Ac P n new) x
 ay:All (Ac P n new) y
 few:new.length<=9*(xh+yh)+3*h
theorem ct1{xh yh bh h:Nat}(p:Top xh yh h)(h1:xh<=yh+1)(hb:bh<=xh)(h40:h<40):∃c,c<40/\bh<=yh+c/\yh<=bh+c/\∀z ah l1 l2 l3,Hi bh yh z->(bh<=yh+1->yh<=bh+1->Top bh yh z)->l1<=2->l2<=9*(ah+bh)+3*xh->l3<=9*c+1->l1+l2+l3<=9*(ah+z)+3*h:=by
 obtain⟨p1,p2,p3⟩:=p;by_cases q:bh<=yh
 · exact⟨yh-bh,by omega,by omega,by omega,fun z ah l1 l2 l3 hz _ _ _ _=>by have:=hz.r;omega⟩
 · exact⟨1,by decide,by omega,by omega,fun z ah l1 l2 l3 _ hz _ _ _=>by have:=(hz (by omega) (by omega)).l;omega⟩
theorem zyx{a b z h:Nat}(p:Hi a b z)(h1:a<h)(h2:b<h):z<=h:=by have:=p.m (h-1) (by omega) (by omega);omega
theorem zwj{p:Nat}(h:p<=a.length):(a++t::b).take p=a.take p:=z6z h
theorem zzv{p:Nat}(h:p<=a.length):(a++t::b).drop p=a.drop p++t::b:=z6y h
theorem zwi{q:Nat}:(a++t::b).take (a.length+1+q)=a++t::b.take q:=by rw[List.take_append,z59 (by omega),show a.length+1+q-a.length=q+1 by omega,List.take_succ_cons]
theorem zzu{q:Nat}:(a++t::b).drop (a.length+1+q)=b.drop q:=by rw[List.drop_append,z6l (by omega),show a.length+1+q-a.length=q+1 by omega,List.drop_succ_cons,List.nil_append]
theorem ya:∀(f:Nat) {d:D}{ts:List D}{h p:Nat}{n:Int}{S:Sto}{P:D->Prop},S[i]? = some (wd (zbn k) n)->Mk k d ts h->ts.length<=2000->p<=ts.length->All P d->h<f ->
   ∃x y xh yh new S',kj f [.obj i,d,.int p] S=some (.tup [x,y],S')/\Cut k i S n P (ts.take p) (ts.drop p) h x y xh yh new S'
 |0,_,_,_,_,_,_,_,_,_,_,_,_,hf=>absurd hf (z8y _)
 | f+1,d,ts,h,p,n,S,P,hw,m,hl,hp,al,hf=>by
   by_cases h0:p=0
   · subst h0;exact⟨.non,d,0,h,[],S,jv rfl (qj (qb (qo (e_2 (e_v rfl) e_k (z2l rfl))) (zw (yi (a_c e_k (a_c (e_v rfl) a_n)) (z5l rfl))))),Wt.nil hw,.non,m,z5y _,z4v _,.non,al.old,z5y _⟩
   · have c0:=ke m S;have e0:xy (.int p) (.int 0)=some (.bl false):=z0z (y:=0) h0;by_cases h9:p=ts.length
     · subst h9;exact⟨d,.non,h,0,[],S,jv rfl (zi (zo (qo (e_2 (e_v rfl) e_k e0))) (qj (qb (qo (e_2 (e_v rfl) (zj (a_c (e_v rfl) a_n) c0) (z2l rfl))) (zw (yi (a_c (e_v rfl) (a_c e_k a_n)) (z5l rfl)))))),Wt.nil hw,by rw[List.take_length];exact m,by rw[List.drop_length];exact .non,z4v _,z5y _,al.old,.non,z5y _⟩
     · have h40:=h15 m hl;obtain⟨x,v,y,xt,yt,xh,yh,w1,S1,c1,q⟩:=zaq m (zdd m (z9p.mp (by omega))) hw al;have e1:=q.hts;subst e1;have c2:=ke q.mx S1;have hx:=q.hh.l;have hy:=q.hh.r;have hl':=hl;have hp':=hp;simp only[z4t,List.length_cons]at hl' hp';by_cases h1:p<=xt.length
       · obtain⟨a,b,ah,bh,w2,S2,c3,u⟩:=ya f q.wt.at_ q.mx (by omega) h1 q.ax (by omega);have wt2:=q.wt.two u.wt;obtain⟨c,j1,j2,j3,j4⟩:=ct1 q.hh q.h1 u.hy (by omega);obtain⟨d2,g2,w3,S3,c4,r3,b5,b6,b7⟩:=zau 40 c wt2.at_ u.my q.my q.ht (by rw[z5o];omega) u.ay.two q.ay.app j2 j3 j1;have r3:=r3.after wt2;have fw:=j4 _ ah _ _ _ b5 b6 q.few u.few b7;refine⟨a,d2,ah,g2,_,S3,jv rfl (zi (zo (qo (e_2 (e_v rfl) e_k e0))) (zi (zo (qo (e_2 (e_v rfl) (zj (a_c (e_v rfl) a_n) c0) (z0z h9)))) (zi (zq (zj (a_c (e_v rfl) (a_c (e_v rfl) a_n)) c1)) (zi (zq (zj (a_c (qt (e_v rfl) e_k rfl) a_n) c2)) (qj (qb (qo (e_2 (e_v rfl) (e_v rfl) (zyh h1))) (zi (zq (zj (a_c (e_v rfl) (a_c (qt (e_v rfl) e_k rfl) (a_c (e_v rfl) a_n))) c3)) (zw (yi (a_c (qt (e_v rfl) e_k rfl) (a_c (zj (a_c (e_v rfl) (a_c (qt (e_v rfl) e_k rfl) (a_c (qt (e_v rfl) e_k rfl) (a_c (qt (e_v rfl) e_k rfl) a_n)))) c4) a_n)) (z5l rfl)))))))))),⟨r3.wt,by rw[zwj h1];exact u.mx,by rw[zzv h1];exact r3.mm,z5j u.hx (z6u hx),zyx b5 (z6o u.hy hx) hy,u.ax.two.app,r3.all,by rw[z4t,z4t];exact fw⟩⟩
       · obtain⟨z,e⟩:∃z,p=xt.length+1+z:=⟨p-xt.length-1,by omega⟩
         obtain⟨a,b,ah,bh,w2,S2,c3,u⟩:=ya f (p:=z) q.wt.at_ q.my (by omega) (by omega) q.ay (by omega);have wt2:=q.wt.two u.wt;obtain⟨c,j1,j2,j3,j4⟩:=ct1 q.hh.sym q.h2 u.hx (by omega);obtain⟨d2,g2,w3,S3,c4,r3,b5,b6,b7⟩:=zau 40 c wt2.at_ q.mx u.mx q.ht (by rw[z49];omega) q.ax.app u.ax.two j3 j2 j1;have r3:=r3.after wt2;have fw:=j4 _ bh _ _ _ b5.sym (fun u v=>(b6 v u).sym) q.few (by have:=u.few;rwa [Nat.add_comm ah bh]at this) b7;rw[Nat.add_comm bh]at fw;refine⟨d2,b,g2,bh,_,S3,jv rfl (zi (zo (qo (e_2 (e_v rfl) e_k e0))) (zi (zo (qo (e_2 (e_v rfl) (zj (a_c (e_v rfl) a_n) c0) (z0z h9)))) (zi (zq (zj (a_c (e_v rfl) (a_c (e_v rfl) a_n)) c1)) (zi (zq (zj (a_c (qt (e_v rfl) e_k rfl) a_n) c2)) (zi (zo (qo (e_2 (e_v rfl) (e_v rfl) (z4b h1)))) (zi (zq (zj (a_c (e_v rfl) (a_c (qt (e_v rfl) e_k rfl) (a_c (zs0 (e_v rfl) (e_v rfl) e) a_n))) c3)) (zw (yi (a_c (zj (a_c (e_v rfl) (a_c (qt (e_v rfl) e_k rfl) (a_c (qt (e_v rfl) e_k rfl) (a_c (qt (e_v rfl) e_k rfl) a_n)))) c4) (a_c (qt (e_v rfl) e_k rfl) a_n)) (z5l rfl))))))))),⟨r3.wt,by rw[e,zwi];exact r3.mm,by rw[e,zzu];exact u.my,zyx b5 hx (z6o u.hx hy),z5j u.hy (z6u hy),r3.all,u.ay.two.app,by rw[z4t,z4t];exact fw⟩⟩
theorem zz1{s e m:Nat}{f g w z:E}(hs:s<=e)(he:e<=m)(h0:f ev S=some (.int (0:Nat),S))(h1:g ev S=some (.int s,S))(h2:w ev S=some (.int e,S))(h3:z ev S=some (.int m,S)):zf3 zer zer zer f g w z ev S=some (.bl true,S):=by simp only[zf3,h0,h1,h2,h3,Option.bind_some,zyh (z5y s),zyh hs,zyh he,Option.map_some]
theorem zkt{s e:Nat}(m:Mk k d ts h)(hs:s<=e)(he:e<=ts.length)(S:Sto):kl [d,.int s,.int e] S=some (.non,S) :=
 z01 rfl (zo (ztc (qo (zz1 hs he e_k (e_v rfl) (e_v rfl) (zj (a_c (e_v rfl) a_n) (ke m S))))))
def turn(s e:Nat)(ts:List D):List D:=ts.take s++((ts.take e).drop s).reverse++ts.drop e
theorem zfc{s e:Nat}(hs:s<=e)(he:e<=ts.length):(turn s e ts).length=ts.length:=by simp only[turn,z4t,z6g,z5o,z49];omega
theorem zsn(hw:S[i]? = some (wd (zbn k) n))(ml:Mk k l lt lh)(mr:Mk k r rt rh)(hn:lt.length+rt.length<=2000)(al:All P l)(ar:All P r):∃d h new S',ki [.obj i,l,r] S=some (d,S')/\Res k i S n P (lt++rt) d h new S'/\new.length<=9*rh+9*max lh rh+10:=by have h1:=h15 mr (by omega);obtain⟨d,h,new,S1,c,r,_,b⟩:=zu2 (f:=40) (c:=max lh rh) hw ml mr hn al ar (by omega) (by omega) (by omega);exact⟨d,h,new,S1,c,r,b⟩
theorem zee{s e:Nat}(hw:S[i]? = some (wd (zbn k) n))(m:Mk k d ts h)(hl:ts.length<=2000)(hs:s<=e)(he:e<=ts.length)(al:All P d):∃d' h' new S',y6 [.obj i,d,.int s,.int e] S=some (d',S')/\Res k i S n P (turn s e ts) d' h' new S':=by
 have h1:=h15 m hl;obtain⟨x,y,xh,yh,w1,S1,c1,u⟩:=ya 40 hw m hl he al (by omega);have hx:=u.hx;obtain⟨x',y',xh',yh',w2,S2,c2,u'⟩:=ya 40 (p:=s) u.wt.at_ u.mx (by rw[z49];omega) (by rw[z49];omega) u.ax (by omega);have wt2:=u.wt.two u'.wt;obtain⟨d3,w3,S3,c3,r3,_⟩:=zi7 u'.my wt2.at_ u'.ay.two;have r3:=r3.after wt2;obtain⟨d4,h4,w4,S4,c4,r4,_⟩:=zsn r3.wt.at_ u'.mx r3.mm (by simp only[z6g,z5o,z49];omega) u'.ax.two.app r3.all;have r4:=r4.after r3.wt;obtain⟨d5,h5,w5,S5,c5,r5,_⟩:=zsn r4.wt.at_ r4.mm u.my (by simp only[z4t,z6g,z5o,z49];omega) r4.all u.ay.app.app.app;have r5:=r5.after r4.wt;have es:(ts.take e).take s=ts.take s:=by rw[qai,z70 hs]
 rw[es]at r5;exact⟨d5,h5,_,S5,jv rfl (zi (zan (zj (a_c (e_v rfl) (a_c (e_v rfl) (a_c (e_v rfl) a_n))) (zkt m hs he S))) (zi (zq (zj (a_c (e_v rfl) (a_c (e_v rfl) (a_c (e_v rfl) a_n))) c1)) (zi (zq (zj (a_c (e_v rfl) (a_c (qt (e_v rfl) e_k rfl) (a_c (e_v rfl) a_n))) c2)) (zi (zq (zj (a_c (e_v rfl) (a_c (qt (e_v rfl) e_k rfl) (a_c (xf (e_v rfl) (qw wt2.at_) (zbq _ _) (a_c (qt (e_v rfl) e_k rfl) a_n) c3) a_n))) c4)) (zw (zj (a_c (e_v rfl) (a_c (e_v rfl) (a_c (qt (e_v rfl) e_k rfl) a_n))) c5)))))),r5⟩
end Pg
namespace Pg
open PySem L2 F Mt
variable {k:Nat} [Kd k] {d l r t x y:D}{ts lt rt:List D}{h lh rh i:Nat}{n:Int}{S S0 S1:Sto}{ev e:Ev}{P Q:D->Prop}{a b new:List D}
theorem p1{xh yh h g:Nat}(p:Top xh yh h)(q1:xh<=yh+1)(q2:yh<=xh+1)(g1:xh<=g)(g2:g<=xh+1):(g<=yh+2/\yh<=g+2)/\∀z,Hi g yh z->(g<=yh+1->yh<=g+1->Top g yh z)->h<=z/\z<=h+1:=by
 obtain⟨p1,p2,p3⟩:=p;refine⟨⟨by omega,by omega⟩,fun z hz ht=>?_⟩;by_cases hb:g<=yh+1/\yh<=g+1
 · obtain⟨t1,t2,t3⟩:=ht hb.1 hb.2;omega
 · have:=hz.l;have:=hz.m g (z4v _) (by omega);omega
theorem zz2{p m:Nat}{f g w:E}(hp:p<m)(h0:f ev S=some (.int (0:Nat),S))(h1:g ev S=some (.int p,S))(h2:w ev S=some (.int m,S)):zay zer zhq f g w ev S=some (.bl true,S):=by simp only[zay,h0,h1,h2,Option.bind_some,zyh (z5y p),z1y hp,Option.map_some]
theorem zqb{p m:Nat}(hp:p<m)(S:Sto):y9 [.int p,.int m] S=some (.non,S):=z01 rfl (zo (ztc (qo (zz2 hp e_k (e_v rfl) (e_v rfl)))))
theorem z0a{p:Nat}(m:Mk k d ts h)(hl:ts.length<=2000)(hp:ts[p]? = some x)(S:Sto):zu9 [d,.int p] S=some (x,S) :=
 jv rfl (zi (zan (zj (a_c (e_v rfl) (a_c (zj (a_c (e_v rfl) a_n) (ke m S)) a_n)) (zqb (z42.mp hp).1 S))) (zw (zj (a_c (e_v rfl) (a_c e_k (a_c (e_v rfl) a_n))) (yw 40 (b:=false) m (z5j (h15 m hl) (by decide)) hp S))))
theorem zc6{q j:Nat}{v:E}{us:List D}(he:ev[q]? = some (some (.obj j)))(hj:S[j]? = some (.lst us))(hv:v ev S=some (x,S))(hl:us.length<16777216):zap (eV q) v ev S=some (.nx ev,S.set j (.lst (us++[x]))):=by have hz:sizeLine=16777216:=z6p;simp only[zap,e_v he,Option.bind_some,hj,hv,hz,z5g hl]
theorem zdv:∀(f:Nat) {d:D}{ts:List D}{h j:Nat}{b:Bool}{acc:List D}{S:Sto},Mk k d ts h->h<f->S[j]? = some (.lst acc)->acc.length+ts.length<16777216->zcy f [d,.bl b,.obj j] S=some (.non,S.set j (.lst (acc++ord b ts)))
 |0,_,_,_,_,_,_,_,_,hf,_,_=>absurd hf (z8y _)
 | f+1,d,ts,h,j,b,acc,S,m,hf,hj,hl=>by
   rcases zi8 m with⟨rfl,rfl,rfl⟩ | ⟨⟨xs,ed⟩,u0,r0,e0⟩
   · rw[show ord b ([]:List D)=[] by cases b<;>rfl,z5q];have:S.set j (.lst acc)=S:=by obtain⟨hj',ej⟩:=z42.mp hj;rw[<-ej];exact List.set_getElem_self hj'
     rw[this];exact jv rfl (qj (qb (qo (e_2 (e_v rfl) e_k rfl)) rfl))
   · obtain⟨u,t,y,c,xt,yt,xh,yh,c1,s⟩:=zh2 m (zdd m (by rw[e0];simp)) b S;have hi:zgi d .non=some (.bl false):=by rw[ed];rfl
     have hu:=s.hu;have hlen:ts.length=xt.length+(yt.length+1):=by have:=z64 List.length hu;rw[xw,z4t,List.length_cons,xw,xw]at this;exact this
     have hx:=s.hx;have hy:=s.hy;have lx:=xw c xt;have ly:=xw c yt;have c2:=zdv f (b:=c) (S:=S) s.mx (by omega) hj (by omega);have j2:(S.set j (.lst (acc++ord c xt)))[j]? = some (.lst (acc++ord c xt)):=zmt hj;have j3:((S.set j (.lst (acc++ord c xt))).set j (.lst (acc++ord c xt++[t])))[j]? = some (.lst (acc++ord c xt++[t])):=zmt j2;have c3:=zdv f (b:=c) s.my (by omega) j3 (by simp only[z4t,List.length_cons,List.length_nil];omega);have e5:((S.set j (.lst (acc++ord c xt))).set j (.lst (acc++ord c xt++[t]))).set j (.lst (acc++ord c xt++[t]++ord c yt))=S.set j (.lst (acc++ord b ts)):=by rw[List.set_set,List.set_set,show acc++ord c xt++[t]++ord c yt=acc++ord b ts by rw[hu];simp]
     rw[e5]at c3;exact z01 rfl (zi (zo (qo (e_2 (e_v rfl) e_k hi))) (zi (zq (zj (a_c (e_v rfl) (a_c (e_v rfl) a_n)) c1)) (zi (zan (zj (a_c (qt (e_v rfl) e_k rfl) (a_c (qt (e_v rfl) e_k rfl) (a_c (e_v rfl) a_n))) c2)) (zi (zc6 rfl j2 (qt (e_v rfl) e_k rfl) (by simp only[z4t];omega)) (zan (zj (a_c (qt (e_v rfl) e_k rfl) (a_c (qt (e_v rfl) e_k rfl) (a_c (e_v rfl) a_n))) c3))))))
def SB(S:Sto):Prop:=∀m∈S,zpf S.length m=true
theorem zo6{m:Nat}(hx:Thing k x):bnd m x=true:=by cases Kd.ne (k:=k);obtain⟨a,v,rfl,ha,hv⟩:=hx;rcases ha with⟨i,rfl⟩ | ⟨z,rfl,_⟩<;>rcases hv with⟨i,rfl⟩ | ⟨z,rfl⟩ | rfl | ⟨b,rfl⟩ | ⟨i,z,rfl⟩ | ⟨i,j,z,rfl⟩<;>rfl
theorem zbk{m:Nat}:∀{ts:List D},(∀x∈ts,Thing k x)->bndL m ts=true
 | [],_=>rfl
 | t::ts,h=>by unfold bndL;rw[zo6 (h t (z5c ..)),zbk fun x hx=>h x (z40 _ hx)];rfl
theorem zwc(m:Nat)(n:Int):zpf m (wd (zbn k) n)=true:=by
 unfold wd zpf zbn;by_cases hk:k=0
 · simp[hk,bndL,bnd]
 · simp[hk,bndL,bnd]
theorem zam(m:Mk k d ts h)(hl:ts.length<=2000)(hb:SB S):jt [d] S=some (.lst ts,S):=by
 have h1:=h15 m hl;have c1:=zdv 40 (b:=false) (S:=S++[.lst []]) (j:=S.length) (acc:=[]) m (by omega) (zdl S _) (by simp only[List.length_nil];omega);have e1:(S++[MO.lst []]).set S.length (.lst ([]++ord false ts))=S++[.lst ts]:=by simp[ord]
 rw[e1]at c1;have c2:z5 2 1 zd5 [d] S=some (.obj S.length,S++[.lst ts]):=jv rfl (zi (zq (zs1 a_n (z5y _))) (zi (zan (zj (a_c (e_v rfl) (a_c e_k (a_c (e_v rfl) a_n))) c1)) (zw (e_v rfl))));have e2:(S++[MO.lst ts]).take S.length=S:=qah;have e3:S.all (zpf S.length)=true:=z55.mpr hb;unfold jt frz;rw[c2];simp only[Option.bind_some,e2,e3,z6s,z61,z6b,zdl,zbk m.things]
end Pg
namespace Pg
open PySem L2 F Mt
variable {k:Nat} [Kd k] {d l r t x y:D}{ts lt rt:List D}{h lh rh i:Nat}{n:Int}{S S0 S1:Sto}{ev e:Ev}{P Q:D->Prop}{a b new:List D}
theorem z0c(m:Mk k d ts h):All (fun _=>True) d:=by
 induction m with
 |non=>exact .non
 |node _ _ _ _ _ il ir=>exact .node trivial il ir
theorem zw5(h:∀z∈lt,Thing k z):∀z∈lt.reverse,Thing k z:=fun z hz=>h z (z73.mp hz)
theorem sx(m d v:Nat):HT.sIx m d (some (v:Int))=min v m:=by show(if(v:Int)<0 then ((v:Int)+(m:Int)).toNat else min (v:Int).toNat m)=min v m;rw[z5n (by omega),Int.toNat_natCast]
theorem zt6(e:Nat):zx4 (.lst ts) none (some (e:Int))=some (.lst (ts.take e)):=by show some (D.lst ((ts.drop 0).take (HT.sIx ts.length ts.length (some (e:Int))-0)))=_;rw[sx,z78,Nat.sub_zero,<-qai,List.take_length]
theorem zt7{s:Nat}(hs:s<=ts.length):zx4 (.lst ts) (some (s:Int)) none=some (.lst (ts.drop s)):=by show some (D.lst ((ts.drop (HT.sIx ts.length 0 (some (s:Int)))).take (ts.length-HT.sIx ts.length 0 (some (s:Int)))))=_;rw[sx,z70 hs,z59 (by rw[z5o];omega)]
theorem zwv{s e:Nat}(hs:s<=e)(he:e<=ts.length):zx4 (.lst ts) (some (s:Int)) (some (e:Int))=some (.lst ((ts.take e).drop s)):=by show some (D.lst ((ts.drop (HT.sIx ts.length 0 (some (s:Int)))).take (HT.sIx ts.length ts.length (some (e:Int))-HT.sIx ts.length 0 (some (s:Int)))))=_;rw[sx,sx,z70 (z5j hs he),z70 he,List.drop_take]
theorem znp(m:Int)(c:Nat):∃e:Nat,e<=c/\jq (.int m) (.int ((c:Int)+1))=some (.int e):=by have x0:=z6r m (show(c:Int)+1≠0 by omega);have x1:=z58 m (show(0:Int)<(c:Int)+1 by omega);exact⟨(m%((c:Int)+1)).toNat,by omega,by rw[yo (by omega),show(((m%((c:Int)+1)).toNat:Nat):Int)=m%((c:Int)+1) by omega]⟩
theorem zh9(m:Int){c:Nat}(hc:0<c):∃e:Nat,e<c/\jq (.int m) (.int (c:Int))=some (.int e):=by have x0:=z6r m (show(c:Int)≠0 by omega);have x1:=z58 m (show(0:Int)<(c:Int) by omega);exact⟨(m%(c:Int)).toNat,by omega,by rw[yo (by omega),show(((m%(c:Int)).toNat:Nat):Int)=m%(c:Int) by omega]⟩
theorem rng{c:Nat}(h:c<=10000):∀x∈q8 0 c,∃i:Int,x=.int i/\0<=i/\i<10000:=fun x hx=>by unfold q8 at hx;obtain⟨j,hj,rfl⟩:=z68.mp hx;have:=List.mem_range.mp hj;exact⟨_,rfl,by omega,by omega⟩
theorem zh4(c:Nat):(q8 0 c).length=c:=by simp[q8]
end Pg
namespace Pg
open PySem L2 F Mt
variable {k:Nat} [Kd k] {d l r t x y:D}{ts us lt rt:List D}{h lh rh i:Nat}{n:Int}{S S0 S1:Sto}{ev e:Ev}{P Q:D->Prop}
theorem zwz(ns:List Int){q:Int}(h0:0<=q)(h1:q<ns.length):∃v:Int,atI (ns.map D.int) q=some (.int v):=by
 have hi:q.toNat<ns.length:=by omega
 have e2:(ns.map D.int)[q.toNat]? = some (.int ns[q.toNat]):=by rw[z54,z4x hi];rfl
 have e3:=zbm e2;rw[show((q.toNat:Nat):Int)=q by omega]at e3;exact⟨_,e3⟩
theorem p30:zda (.int 10) (.int 30)=some (.int (10^30)):=by
 have:zsg 10 30=some (10^30):=by unfold zsg;rw[z5g (by decide)];rfl
 simp only[zda,F.opI,this];rfl
theorem zac(ns:List Int)(hn:ns.length<=63){q:Int}(h0:0<=q)(h1:q<=1000000):∃m:Int,0<=m/\m<999999937/\∀S,z8 [.lst (ns.map D.int),.int q] S=some (.int m,S):=by
 have len:∀S:Sto,zce S [.lst (ns.map D.int)]=some (.int (ns.length:Int)):=fun S=>by simp[zce]
 have first:∀(S:Sto),q9 2 (e2 ql (e2 zah (e2 zah (eV 1) (eV 1)) (eK (.int 7919))) (eK (.int 17))) [some (.lst (ns.map D.int)),some (.int q),none] S=some (.nx [some (.lst (ns.map D.int)),some (.int q),some (.int (q*q*7919+17))],S):=fun S=>
   zq (e_2 (e_2 (e_2 (e_v rfl) (e_v rfl) (zju (by omega))) e_k (zjt (by decide))) e_k (add_int _ _))
 have last:∀(c:Int) (S:Sto),qu (e2 jq (e2 zah (e2 jq (e2 ql (e2 zah (eV 2) (eK (.int 48271))) (e2 zah (eV 1) (eK (.int 69621)))) (eK (.int 2147483647))) (e2 ql (e2 jq (eV 2) (eK (.int 65521))) (eK (.int 3)))) (eK (.int 999999937))) [some (.lst (ns.map D.int)),some (.int q),some (.int c)] S=some (.rt (.int ((c*48271+q*69621)%2147483647*(c%65521+3)%999999937)),S):=fun c S=>by have y0:=z6r (c*48271+q*69621) (show(2147483647:Int)≠0 by decide);have y1:=z58 (c*48271+q*69621) (show(0:Int)<2147483647 by decide);exact zw (e_2 (e_2 (e_2 (e_2 (e_2 (e_v rfl) e_k (zjt (by decide))) (e_2 (e_v rfl) e_k (zjt (by decide))) (add_int _ _)) e_k (yo (by decide))) (e_2 (e_2 (e_v rfl) e_k (yo (by decide))) e_k (add_int _ _)) (zju (by omega))) e_k (yo (by decide)))
 by_cases z:0<(ns.length:Int)
 · have x0:=z6r q (show(ns.length:Int)≠0 by omega);have x1:=z58 q z;obtain⟨v,hv⟩:=zwz ns x0 x1;refine⟨_,z6r _ (by decide),z58 _ (by decide),fun S=>jv rfl (zi (first S) (zi (qb (qo (e_2 (e_a (a_c (e_v rfl) a_n) (len _)) e_k (show zjo (.int (ns.length:Int)) (.int 0)=some (.bl true) by simp[zjo,zqk];omega)))
     (zq (e_2 (e_2 (qt (e_v rfl) (e_2 (e_v rfl) (e_a (a_c (e_v rfl) a_n) (len _)) (yo z)) hv) (e_2 e_k e_k p30) (yo (by decide))) (e_2 (e_2 (e_v rfl) (e_a (a_c (e_v rfl) a_n) (len _)) (zll ⟨z,by omega⟩)) e_k (zjt (by decide))) (add_int _ _)))) (last _ S)))⟩
 · exact⟨_,z6r _ (by decide),z58 _ (by decide),fun S=>jv rfl (zi (first S) (zi (zo (qo (e_2 (e_a (a_c (e_v rfl) a_n) (len _)) e_k (show zjo (.int (ns.length:Int)) (.int 0)=some (.bl false) from(by show some (D.bl (decide ((0:Int)<(ns.length:Int))))=_;rw[z5m z]))))) (last _ S)))⟩
theorem zhz{i:Nat}{f:E}{b:C}{n:Int}{o:Out}{S2:Sto}(h:f ev S=some (.int n,S1))(h0:0<=n)(h1:n<1000000)(q:zbb i b (q8 0 n.toNat) ev S1=some (o,S2)):zky i f b ev S=some (o,S2):=by
 have cnd:-(2^62)<=n/\n<2^62:=by omega
 simp only[zky,h,Option.bind_some,z5g cnd,q]
theorem ztt{i:Nat}{f:E}{b:C}{ds:List D}{o:Out}{S2:Sto}(h:f ev S=some (.lst ds,S1))(q:zbb i b ds ev S1=some (o,S2)):zpt i f b ev S=some (o,S2):=by simp only[zpt,h,Option.bind_some,q]
theorem zde{i:Nat}{b:C}{d:D}{ds:List D}{e1:Ev}{o:Out}{S2:Sto}(h:b (ev.set i (some d)) S=some (.nx e1,S1))(q:zbb i b ds e1 S1=some (o,S2)):zbb i b (d::ds) ev S=some (o,S2):=by unfold zbb;rw[h];exact q
theorem zu0{f:E}(h:f ev S=some (.lst ts,S1)):zkc (aC f aN) ev S=some (.lst ts,S1):=by simp[zkc,aC,aN,h]
theorem zn9{g:G}{ds us:List D}{J:Sto}(hS:SB S)(hg:g ds S=some (.lst us,S++J))(hb:bndL S.length us=true):frz g ds S=some (.lst us,S):=by unfold frz;rw[hg];have e1:(S++J).take S.length=S:=qah;have e2:S.all (zpf S.length)=true:=z55.mpr hS;simp only[Option.bind_some,e1,e2,z6s,bnd,hb]
theorem zcb(lo:Int)(m:Nat):q8 lo (m+1)=.int lo::q8 (lo+1) m:=by
 unfold q8;rw[List.range_succ_eq_map,z5a,z8b];congr 1
 · simp
 · refine List.map_congr_left fun z _=>?_;simp;omega
end Pg
namespace Pg
open PySem L2 F Mt
structure Sw (T:D->Prop) (lt:D->D->Bool):Prop where
 irr:∀x,T x->lt x x=false
 tr:∀x y z,T x->T y->T z->lt x y=true->lt y z=true->lt x z=true
 co:∀x y z,T x->T y->T z->lt x z=true->lt x y=true\/lt y z=true
section
variable {T:D->Prop}{lt:D->D->Bool}
def alk(lt:D->D->Bool)(x y:D):Prop:=lt x y=false/\lt y x=false
def Srt(lt:D->D->Bool)(l:List D):Prop:=l.Pairwise fun x y=>lt x y=true
def Al(T:D->Prop)(l:List D):Prop:=∀x∈l,T x
theorem Al.tail{x:D}{l:List D}(h:Al T (x::l)):Al T l:=fun y hy=>h y (z40 _ hy)
theorem Al.head{x:D}{l:List D}(h:Al T (x::l)):T x:=h x (z5c ..)
open Classical in
def hs(lt:D->D->Bool)(l:List D)(x:D):Bool:=decide (∃y∈l,alk lt y x)
open Classical in
theorem hs_iff{l:List D}{x:D}:hs lt l x=true↔∃y∈l,alk lt y x:=by unfold hs;exact decide_eq_true_iff
def cb(lt:D->D->Bool)(l:List D)(x:D):Nat:=(l.filter (lt · x)).length
theorem zs8(w:Sw T lt){a b:List D}{t x:D}(al:Al T (a++t::b))(tx:T x)(s:Srt lt (a++t::b)):cb lt (a++t::b) x=if lt t x=true then a.length+1+cb lt b x else cb lt a x:=by
 have tt:T t:=al t (by simp);obtain⟨sa,sb,sab⟩:=z4y.mp s;obtain⟨st,sb'⟩:=z63.mp sb;unfold cb;rw[List.filter_append,z4t,List.filter_cons];split
 · rename_i h;have e:a.filter (lt · x)=a:=List.filter_eq_self.mpr fun y hy=>w.tr y t x (al y (by simp[hy])) tt tx (sab y hy t (z5c ..)) h;rw[e,List.length_cons];omega
 · rename_i h;have e:b.filter (lt · x)=[]:=z83.mpr fun y hy q=>h (w.tr t y x tt (al y (by simp[hy])) tx (st y hy) q);rw[e];simp
theorem zf6(w:Sw T lt){x:D}(tx:T x):∀{l:List D},Al T l->Srt lt l->(∀y∈l.take (cb lt l x),lt y x=true)/\(∀y∈l.drop (cb lt l x),lt y x=false)
 | [],_,_=>⟨fun y hy=>by simp at hy,fun y hy=>by simp at hy⟩
 | z::l,al,s=>by
   obtain⟨sz,sl⟩:=z63.mp s;have e:=zs8 w (a:=[]) (b:=l) (t:=z) al tx s;rw[List.nil_append]at e;by_cases h:lt z x=true
   · rw[z5g h]at e;obtain⟨i1,i2⟩:=zf6 w tx al.tail sl;rw[e,show[].length+1+cb lt l x=cb lt l x+1 by simp;omega,List.take_succ_cons,List.drop_succ_cons];exact⟨fun y hy=>(z46.mp hy).elim (fun q=>q▸h) (i1 y),i2⟩
   · rw[z5n h]at e;have e0:cb lt (z::l) x=0:=e;rw[e0];refine⟨fun y hy=>by simp at hy,fun y hy=>?_⟩;rcases z46.mp hy with rfl | hy
     · exact z86.mpr h
     · exact z86.mpr fun q=>h (w.tr z y x al.head (al.tail y hy) tx (sz y hy) q)
theorem zyv(w:Sw T lt){x:D}(tx:T x){l:List D}(al:Al T l)(s:Srt lt l):hs lt l x=true↔∃y,l[cb lt l x]? = some y/\lt x y=false:=by
 obtain⟨h1,h2⟩:=zf6 w tx al s;constructor
 · intro h;obtain⟨y,hy,r⟩:=hs_iff.mp h;have hy':y∈l.drop (cb lt l x):=by
     rw[<-z6e (cb lt l x) l]at hy;rcases z5k.mp hy with q | q
     · have:=r.1;rw[h1 y q]at this;cases this
     · exact q
   cases q:l.drop (cb lt l x) with
   |nil=>rw[q]at hy';cases hy'
   | cons z m=>
     have hz:l[cb lt l x]? = some z:=by have:=z8x (xs:=l) (i:=cb lt l x) (j:=0);rw[q]at this;simpa using this.symm
     refine⟨z,hz,?_⟩;have sd:Srt lt (z::m):=q▸List.Pairwise.drop s;rw[q]at hy';rcases z46.mp hy' with rfl | hm
     · exact r.2
     · cases g:lt x z with
       |false=>rfl
       | true=>
         have tz:=al z (z5t hz);have:=w.tr x z y tx tz (al y hy) g ((z63.mp sd).1 y hm);rw[r.2]at this;cases this
 · intro⟨y,hy,r⟩;have hm:y∈l.drop (cb lt l x):=z5t (i:=0) (by rw[z8x];simpa using hy);exact hs_iff.mpr ⟨y,z5t hy,h2 y hm,r⟩
end
variable {d d0 l r t x y:D}{ts us rt:List D}{h i j g rh:Nat}{n:Int}{S S0 S1:Sto}{ev:Ev}{T:D->Prop}{lt:D->D->Bool}{f:LT}{vs:List D}
instance:Kd 0:=⟨rfl⟩
theorem z0y(w c:Int):xy (.int w) (.int c)=some (.bl (decide (w=c))):=by rw[zor];rfl
theorem z0n(w c:Int):zhq (.int w) (.int c)=some (.bl (decide (w<c))):=rfl
structure Bf (T:D->Prop) (lt:D->D->Bool) (f:LT) (vs:List D):Prop where
 two:f.params.args.length=2
 no:zbv vs=true
 th:∀x,T x->noC x=true
 ca:∃g,zrh f=some g/\∀x y,T x->T y->∀S,zb7 S=true->g ([x,y]++vs) S=some (.bl (lt x y),S)
 sw:Sw T lt
theorem bef{q:Nat}{e1 e2:E}(B:Bf T lt f vs)(hn:zb7 S=true)(hq:ev[q]? = some (some (.clo f vs)))(h1:e1 ev S=some (x,S))(h2:e2 ev S=some (y,S))(tx:T x)(ty:T y):zb2 ft zjw zrh (eV q) (aC e1 (aC e2 aN)) ev S=some (.bl (lt x y),S):=by
 obtain⟨g,hg,hc⟩:=B.ca;have nn:(noCL [x,y]&&zbv vs&&zb7 S)=true/\[x,y].length=f.params.args.length:=⟨by rw[B.no,hn];simp only[noCL,B.th x tx,B.th y ty,z8w],B.two.symm⟩
 simp only[zb2,e_v hq,Option.bind_some,hg,a_c h1 (a_c h2 a_n),z5g nn,hc x y tx ty S hn]
theorem zf4(B:Bf T lt f vs)(hn:zb7 S=true)(tx:T x):∀(q:Nat) {d:D}{ts:List D}{h:Nat}{b:Bool},Mk 0 d ts h->h<q->Al T (ord b ts)->Srt lt (ord b ts)->xn q [d,.bl b,x,.clo f vs] S=some (.int (cb lt (ord b ts) x:Nat),S)
 |0,_,_,_,_,_,hq,_,_=>absurd hq (z8y _)
 | q+1,d,ts,h,b,m,hq,al,s=>by
   rcases zi8 m with⟨rfl,rfl,rfl⟩ | ⟨⟨xs,rfl⟩,u0,rest,e0⟩
   · have e:ord b ([]:List D)=[]:=by unfold ord;split<;>rfl
     rw[e];exact jv rfl (qj (qb (qo (e_2 (e_v rfl) e_k rfl)) (zw e_k)))
   · have hh:0<h:=zdd m (by rw[e0];simp);obtain⟨u,t,y,c,xt,yt,xh,yh,c1,sn⟩:=zh2 m hh b S;have hu:=sn.hu;have hx:=sn.hx;have hy:=sn.hy;rw[hu]at al s ⊢;have tt:T t:=al t (by simp);obtain⟨sa,sb,_⟩:=z4y.mp s;have sb':=(z63.mp sb).2;have aX:Al T (ord c xt):=fun z hz=>al z (by simp[hz]);have aY:Al T (ord c yt):=fun z hz=>al z (by simp[hz]);rw[zs8 B.sw al tx s];have e1:bE (zb2 ft zjw zrh (eV 3) (aC (e2s z9 (eV 4) (eK (.int 1))) (aC (eV 2) aN))) [some (.tup xs),some (.bl b),some x,some (.clo f vs),some (.tup [u,t,y,.bl c])] S=some (lt t x,S):=qo (bef B hn rfl (qt (e_v rfl) e_k rfl) (e_v rfl) tt tx);by_cases g:lt t x=true
     · rw[z5g g];rw[g]at e1;refine jv rfl (zi (zo (qo (e_2 (e_v rfl) e_k (zj1 xs)))) (zi (zq (zj (a_c (e_v rfl) (a_c (e_v rfl) a_n)) c1)) (qj (qb e1 (zw (e_2 (e_2 (zj (a_c (qt (e_v rfl) e_k rfl) a_n) (ke sn.mx S)) e_k (add_int _ _)) (zj (a_c (qt (e_v rfl) e_k rfl) (a_c (qt (e_v rfl) e_k rfl) (a_c (e_v rfl) (a_c (e_v rfl) a_n)))) (zf4 B hn tx q sn.my (by omega) aY sb')) ?_))))));rw[add_int,xw];congr 2
     · have g':lt t x=false:=z86.mpr g;rw[z5n g];rw[g']at e1;exact jv rfl (zi (zo (qo (e_2 (e_v rfl) e_k (zj1 xs)))) (zi (zq (zj (a_c (e_v rfl) (a_c (e_v rfl) a_n)) c1)) (zi (zo e1) (zw (zj (a_c (qt (e_v rfl) e_k rfl) (a_c (qt (e_v rfl) e_k rfl) (a_c (e_v rfl) (a_c (e_v rfl) a_n)))) (zf4 B hn tx q sn.mx (by omega) aX sa))))))
structure Ste (T:D->Prop) (lt:D->D->Bool) (d:D) (ts:List D) (h:Nat):Prop where
 mm:Mk 0 d ts h
 al:Al T ts
 sr:Srt lt ts
theorem zgs(B:Bf T lt f vs)(hn:zb7 S=true)(tx:T x)(s:Ste T lt d ts h)(hl:ts.length<=2000):yp [d,x,.clo f vs] S=some (.int (cb lt ts x:Nat),S):=by have h1:=h15 s.mm hl;have:=zf4 B hn tx 40 (b:=false) s.mm (by omega) (show Al T (ord false ts)from s.al) (show Srt lt (ord false ts)from s.sr);exact jv rfl (zw (zj (a_c (e_v rfl) (a_c e_k (a_c (e_v rfl) (a_c (e_v rfl) a_n)))) this))
theorem zko(B:Bf T lt f vs)(hn:zb7 S=true)(tx:T x)(s:Ste T lt d ts h)(hl:ts.length<=2000):xb [d,.int (cb lt ts x:Nat),x,.clo f vs] S=some (.bl (hs lt ts x),S):=by
 have hat:=zyv B.sw tx s.al s.sr;by_cases hp:cb lt ts x<ts.length
 · have hy:ts[cb lt ts x]? = some ts[cb lt ts x]:=z4x hp;have ty:=s.al _ (z74 hp);have e:hs lt ts x=!lt x ts[cb lt ts x]:=by
     rw[qae,hat];constructor
     · rintro⟨y,q,r⟩;rw[hy]at q;cases q;rw[r];rfl
     · intro q;exact⟨_,hy,by cases g:lt x ts[cb lt ts x]with | false=>rfl | true=>rw[g]at q;cases q⟩
   rw[e];exact jv rfl (zw (zkb (e_2 (e_v rfl) (zj (a_c (e_v rfl) a_n) (ke s.mm S)) ((z0n _ _).trans (by rw[z5w (by omega)]))) (zzq (bef B hn rfl (e_v rfl) (zj (a_c (e_v rfl) (a_c (e_v rfl) a_n)) (z0a s.mm hl hy S)) tx ty))))
 · have e:hs lt ts x=false:=by
     cases g:hs lt ts x with
     |false=>rfl
     |true=>obtain⟨y,q,_⟩:=hat.mp g;exact absurd (z42.mp q).1 hp
   rw[e];exact jv rfl (zw (zzr (e_2 (e_v rfl) (zj (a_c (e_v rfl) a_n) (ke s.mm S)) ((z0n _ _).trans (by rw[z5m (by omega)])))))
end Pg
namespace Pg
open PySem L2 F Mt
variable {d d0 l r t x y:D}{ts us rt:List D}{h i j g rh:Nat}{n:Int}{S S0 S1:Sto}{ev:Ev}{T:D->Prop}{lt:D->D->Bool}{f:LT}{vs:List D}
theorem zsp(a b:Int):([a] < [b])↔a<b:=by rw[z6f];simp
theorem zyr(a b c d:Int):([a,b] < [c,d])↔(a<c\/a=c/\b<d):=by rw[z6f,zsp]
theorem zys(a c:Int)(b d:Str):(a::Srt.nums b<c::Srt.nums d)↔(a<c\/a=c/\b.cps.toList<d.cps.toList):=by rw[z6f];have:(Srt.nums b<Srt.nums d)↔b.cps.toList<d.cps.toList:=Srt.map_lt _ _;rw[this]
theorem zjp{a b:Str}(h:Srt.nums a=Srt.nums b):a=b:=by obtain⟨a⟩:=a;obtain⟨b⟩:=b;refine z64 Str.mk (Array.toList_inj.mp ?_);exact(List.map_inj_right fun x y e=>Int.ofNat.inj e).mp h
theorem zu4(h:xo x<4)(e:xo x=xo y)(c:zfr x=zfr y):x=y:=by
 have h':xo y<4:=e▸h;rcases jr h with⟨n,rfl⟩ | ⟨z,rfl⟩ | ⟨a,b,rfl⟩ | ⟨a,z,rfl⟩<;>rcases jr h' with⟨m,rfl⟩ | ⟨w,rfl⟩ | ⟨u,v,rfl⟩ | ⟨u,w,rfl⟩<;>first | (simp[xo]at e;done) | skip
 · rw[show n=m from List.head_eq_of_cons_eq c]
 · rw[zjp c]
 · obtain⟨c1,c2⟩:=List.cons.inj c;rw[c1,List.head_eq_of_cons_eq c2]
 · obtain⟨c1,c2⟩:=List.cons.inj c;rw[c1,zjp c2]
theorem zyp(h:xo x<4)(e:xo x=xo y):xy x y=some (.bl (decide (zfr x=zfr y))):=by
 have h':xo y<4:=e▸h;have ei:∀(m:Nat) (i j:Int),eqN m (.int i) (.int j)=some (i==j):=fun m i j=>by cases m<;>rfl
 have es:∀(m:Nat) (i j:Str),eqN m (.str i) (.str j)=some (i==j):=fun m i j=>by cases m<;>rfl
 have key:∀b:Bool,eqN 150 x y=some b->(b=true↔x=y)->xy x y=some (.bl (decide (zfr x=zfr y))):=fun b h1 h2=>by
   unfold xy;rw[h1];have:b=decide (zfr x=zfr y):=by rw[qae,h2,decide_eq_true_iff];exact⟨fun q=>q▸rfl,zu4 h e⟩
   rw[this];rfl
 rcases jr h with⟨n,rfl⟩ | ⟨z,rfl⟩ | ⟨a,b,rfl⟩ | ⟨a,z,rfl⟩<;>rcases jr h' with⟨m,rfl⟩ | ⟨w,rfl⟩ | ⟨u,v,rfl⟩ | ⟨u,w,rfl⟩<;>first | (simp[xo]at e;done) | skip
 · exact key _ (ei _ _ _) (by simp)
 · exact key _ (es _ _ _) (by simp)
 · exact key ((a==u)&&((b==v)&&true)) (by show eqL (eqN 149) [.int a,.int b] [.int u,.int v]=_;simp[eqL,ei]) (by simp)
 · exact key ((a==u)&&((z==w)&&true)) (by show eqL (eqN 149) [.int a,.str z] [.int u,.str w]=_;simp[eqL,ei,es]) (by simp)
theorem zym(h:xo x<4)(e:xo x=xo y):zk7 x y=some (.bl (decide (zfr x<zfr y))):=by
 have h':xo y<4:=e▸h;rcases jr h with⟨n,rfl⟩ | ⟨z,rfl⟩ | ⟨a,b,rfl⟩ | ⟨a,z,rfl⟩<;>rcases jr h' with⟨m,rfl⟩ | ⟨w,rfl⟩ | ⟨u,v,rfl⟩ | ⟨u,w,rfl⟩<;>first | (simp[xo]at e;done) | skip
 · show some (D.bl (decide (n<m)))=some (.bl (decide ([n] < [m])));rw[z6i.mpr (zsp n m)]
 · show some (D.bl (decide (z.cps.toList<w.cps.toList)))=some (.bl (decide (Srt.nums z<Srt.nums w)));rw[z6i.mpr (show(Srt.nums z<Srt.nums w)↔z.cps.toList<w.cps.toList from Srt.map_lt _ _)]
 · show(zle [.int a,.int b] [.int u,.int v]).map D.bl=some (.bl (decide ([a,b] < [u,v])));rw[z6i.mpr (zyr a b u v)];simp only[zle];by_cases h:a=u
   · subst h;by_cases g:b=v
     · subst g;rw[z5m (show ¬ (a<a\/a=a/\b<b) by omega)];simp
     · simp[g]
   · simp[h]
 · show(zle [.int a,.str z] [.int u,.str w]).map D.bl=some (.bl (decide (a::Srt.nums z<u::Srt.nums w)));rw[z6i.mpr (zys a u z w)];simp only[zle];by_cases h:a=u
   · subst h;by_cases g:z=w
     · subst g;rw[z5m (show ¬ (a<a\/a=a/\z.cps.toList<z.cps.toList)from fun q=>q.elim (fun z=>by omega) fun z=>z9a _ z.2)];simp
     · simp[g]
   · simp[h]
def Ti(x:D):Prop:=∃i,x=.int i
def Tw(x:D):Prop:=∃z,x=.str z/\z.length<=8
def iv:D->Int
 | .int i=>i
 |_=>0
def sv:D->Str
 | .str z=>z
 |_=>⟨#[]⟩
theorem zww(z:Str)(lo hi:Option Int):(zca z lo hi).length<=z.length:=by
 unfold zca;split
 · exact z4v _
 · have h1:=PyProof.Rows.indices_len_le lo hi z.length;refine z5j ?_ h1;show(List.filterMap _ _).toArray.size<=_;rw[z45];exact List.length_filterMap_le _ _
def zeu(κ:Int)(x:D):D:=if κ=1 then .int (0-iv x)else if κ=2 then .tup [.int (iv x%7),x]else if κ=3 then .int (iv x/3)else if κ=4 then .int (if iv x<0 then-iv x else iv x)else if κ=6 then .tup [.int (sv x).length,x]else if κ=7 then .str (zca (sv x) none (some 1))else x
def zad(κ:Int):D->Prop:=if κ<5 then Ti else Tw
theorem zdn{κ:Int}(h0:0<=κ)(h1:κ<8)(tx:zad κ x):qi [.int κ,x] S=some (zeu κ x,S):=by
 have hz:sizeLine=16777216:=z6p;have:κ=0\/κ=1\/κ=2\/κ=3\/κ=4\/κ=5\/κ=6\/κ=7:=by omega
 rcases this with rfl | rfl | rfl | rfl | rfl | rfl | rfl | rfl
 · exact jv rfl (zi (zo (qo (e_2 (e_v rfl) e_k rfl))) (zi (zo (qo (e_2 (e_v rfl) e_k rfl))) (zi (zo (qo (e_2 (e_v rfl) e_k rfl))) (zi (zo (qo (e_2 (e_v rfl) e_k rfl))) (zi (zo (qo (e_2 (e_v rfl) e_k rfl))) (zi (zo (qo (e_2 (e_v rfl) e_k rfl))) (zw (e_v rfl))))))))
 · obtain⟨i,rfl⟩:=(show Ti x from tx)
   exact jv rfl (qj (qb (qo (e_2 (e_v rfl) e_k rfl)) (zw (e_2 e_k (e_v rfl) (sub_int _ _)))))
 · obtain⟨i,rfl⟩:=(show Ti x from tx)
   exact jv rfl (zi (zo (qo (e_2 (e_v rfl) e_k rfl))) (qj (qb (qo (e_2 (e_v rfl) e_k rfl)) (zw (yi (a_c (e_2 (e_v rfl) e_k (yo (by decide))) (a_c (e_v rfl) a_n)) (z5l rfl))))))
 · obtain⟨i,rfl⟩:=(show Ti x from tx)
   exact jv rfl (zi (zo (qo (e_2 (e_v rfl) e_k rfl))) (zi (zo (qo (e_2 (e_v rfl) e_k rfl))) (qj (qb (qo (e_2 (e_v rfl) e_k rfl)) (zw (e_2 (e_v rfl) e_k (zll (by decide))))))))
 · obtain⟨i,rfl⟩:=(show Ti x from tx)
   exact jv rfl (zi (zo (qo (e_2 (e_v rfl) e_k rfl))) (zi (zo (qo (e_2 (e_v rfl) e_k rfl))) (zi (zo (qo (e_2 (e_v rfl) e_k rfl))) (qj (qb (qo (e_2 (e_v rfl) e_k rfl)) (zw (e_a (a_c (e_v rfl) a_n) rfl)))))))
 · exact jv rfl (zi (zo (qo (e_2 (e_v rfl) e_k rfl))) (zi (zo (qo (e_2 (e_v rfl) e_k rfl))) (zi (zo (qo (e_2 (e_v rfl) e_k rfl))) (zi (zo (qo (e_2 (e_v rfl) e_k rfl))) (zi (zo (qo (e_2 (e_v rfl) e_k rfl))) (zi (zo (qo (e_2 (e_v rfl) e_k rfl))) (zw (e_v rfl))))))))
 · obtain⟨z,rfl,hl⟩:=(show Tw x from tx)
   have ln:zce S [.str z]=some (.int z.length):=by show(if z.length<=sizeLine then some (D.int z.length)else none)=_;rw[z5g (by omega)]
   exact jv rfl (zi (zo (qo (e_2 (e_v rfl) e_k rfl))) (zi (zo (qo (e_2 (e_v rfl) e_k rfl))) (zi (zo (qo (e_2 (e_v rfl) e_k rfl))) (zi (zo (qo (e_2 (e_v rfl) e_k rfl))) (qj (qb (qo (e_2 (e_v rfl) e_k rfl)) (zw (yi (a_c (e_a (a_c (e_v rfl) a_n) ln) (a_c (e_v rfl) a_n)) (z5l rfl)))))))))
 · obtain⟨z,rfl,hl⟩:=(show Tw x from tx)
   have sl:z00 (eV 1) pN (pE (eK (.int 1))) [some (.int 7),some (.str z)] S=some (.str (zca z none (some 1)),S):=by
     have h2:=zww z none (some 1);have h3:(zca z none (some 1)).length<=sizeLine:=by omega
     simp[z00,eV,pN,pE,eK,zx3,h3]
   exact jv rfl (zi (zo (qo (e_2 (e_v rfl) e_k rfl))) (zi (zo (qo (e_2 (e_v rfl) e_k rfl))) (zi (zo (qo (e_2 (e_v rfl) e_k rfl))) (zi (zo (qo (e_2 (e_v rfl) e_k rfl))) (zi (zo (qo (e_2 (e_v rfl) e_k rfl))) (qj (qb (qo (e_2 (e_v rfl) e_k rfl)) (zw sl))))))))
def kq(κ:Int):Nat:=if κ=2 then 2 else if κ=6 then 3 else if κ<5 then 0 else 1
theorem kq4(κ:Int):kq κ<4:=by
 unfold kq;split
 · decide
 split
 · decide
 split<;>decide
theorem zat{κ:Int}(h0:0<=κ)(h1:κ<8)(tx:zad κ x):xo (zeu κ x)=kq κ:=by
 have:κ=0\/κ=1\/κ=2\/κ=3\/κ=4\/κ=5\/κ=6\/κ=7:=by omega
 rcases this with rfl | rfl | rfl | rfl | rfl | rfl | rfl | rfl
 · obtain⟨i,rfl⟩:=(show Ti x from tx);rfl
 · obtain⟨i,rfl⟩:=(show Ti x from tx);rfl
 · obtain⟨i,rfl⟩:=(show Ti x from tx);rfl
 · obtain⟨i,rfl⟩:=(show Ti x from tx);rfl
 · obtain⟨i,rfl⟩:=(show Ti x from tx);rfl
 · obtain⟨z,rfl,hl⟩:=(show Tw x from tx);rfl
 · obtain⟨z,rfl,hl⟩:=(show Tw x from tx);rfl
 · obtain⟨z,rfl,hl⟩:=(show Tw x from tx);rfl
def cc(κ:Int)(x:D):List Int:=zfr (zeu κ x)
def ltk(κ:Int)(x y:D):Bool:=decide (cc κ x<cc κ y)
theorem z3z(κ:Int):Sw T (ltk κ) :=
 ⟨fun x _=>z5m (z9a _),fun x y z _ _ _ p q=>z5w (List.lt_trans (z7h p) (z7h q)),fun x y z _ _ _ p=>by
   have p:=z7h p;by_cases q:cc κ x<cc κ y
   · exact .inl (z5w q)
   · refine .inr (z5w ?_);by_cases g:cc κ y<cc κ z
     · exact g
     · exact absurd p (z6t.mpr (List.le_trans (z6t.mp g) (z6t.mp q)))⟩
theorem z0d{κ:Int}:alk (ltk κ) x y↔cc κ x=cc κ y:=by
 unfold alk ltk;rw[z72,z72];constructor
 · rintro⟨a,b⟩;exact z9f (z6t.mp b) (z6t.mp a)
 · intro e;rw[e];exact⟨z9a _,z9a _⟩
theorem zso{κ:Int}(h0:0<=κ)(h1:κ<8)(tx:zad κ x)(ty:zad κ y):xy (zeu κ x) (zeu κ y)=some (.bl (decide (cc κ x=cc κ y))) :=
 zyp (by rw[zat h0 h1 tx];exact kq4 κ) (by rw[zat h0 h1 tx,zat h0 h1 ty])
theorem zyj{κ:Int}(h0:0<=κ)(h1:κ<8)(tx:zad κ x)(ty:zad κ y):zk7 (zeu κ x) (zeu κ y)=some (.bl (ltk κ x y)) :=
 zym (by rw[zat h0 h1 tx];exact kq4 κ) (by rw[zat h0 h1 tx,zat h0 h1 ty])
theorem zpl{κ:Int}(tx:zad κ x):Ky x:=by
 unfold zad at tx;split at tx
 · exact .inl tx
 · exact .inr tx
theorem zgw{κ:Int}(tx:zad κ x):noC x=true:=by rcases zpl tx with⟨i,rfl⟩ | ⟨z,rfl,_⟩<;>rfl
theorem zkg{cn:B}{fr:Ev}{p:D->Bool}:∀(ds:List D),(∀x∈ds,cn (some x::fr) S=some (p x,S))->zch cn (eV 0) fr ds S=some (ds.filter p,S)
 | [],_=>rfl
 | x::ds,hc=>by
   have ih:=zkg ds fun y hy=>hc y (z40 _ hy);unfold zch;rw[hc x (z5c ..)];simp only[Option.bind_some];cases g:p x with
   | true=>
     rw[z5g rfl,List.filter_cons_of_pos g];show((eV 0 (some x::fr) S).bind fun q=>(zch cn (eV 0) fr ds q.2).bind fun r=>some (q.1::r.1,r.2))=_;rw[show eV 0 (some x::fr) S=some (x,S)from rfl];simp only[Option.bind_some,ih]
   | false=>
     rw[z5n (by simp),List.filter_cons_of_neg (by rw[g];simp)];exact ih
theorem zzy{fr:List Nat}{e:E}{cn:B}{p:D->Bool}(he:e ev S=some (.lst ts,S))(hc:∀x∈ts,cn (some x::fr.map (zf1 ev)) S=some (p x,S)):jc fr (zc7 e) cn (eV 0) ev S=some (.lst (ts.filter p),S):=by unfold jc zc7;rw[he];simp only[Option.bind_some,zak,zkg ts hc,Option.map_some]
theorem zx7{κ:Int}(h0:0<=κ)(h1:κ<8)(tx:zad κ x):noC (zeu κ x)=true:=by
 have h:xo (zeu κ x)<4:=by rw[zat h0 h1 tx];exact kq4 κ
 rcases jr h with⟨n,e⟩ | ⟨z,e⟩ | ⟨a,b,e⟩ | ⟨a,z,e⟩<;>rw[e]<;>rfl
theorem zqs{c:D->List Int}(al:Al T ts):Al T (jo c ts):=fun x hx=>al x ((jz ts).mem_iff.mp hx)
theorem znw{κ:Int}(hd:ts.Pairwise fun x y=>cc κ x≠cc κ y):Srt (ltk κ) (jo (cc κ) ts):=by
 have p1:=zdq (c:=cc κ) ts;have p2:(jo (cc κ) ts).Pairwise fun x y=>cc κ x≠cc κ y:=(jz ts).symm.pairwise hd fun h=>h.symm;refine(p1.and p2).imp fun {x y} q=>z5w ?_;by_cases g:cc κ x<cc κ y
 · exact g
 · exact absurd (z9f (z6t.mp q.1) (z6t.mp g)) q.2
theorem zpp{κ:Int}(h0:0<=κ)(h1:κ<8)(al:Al (zad κ) ts)(hd:ts.Pairwise fun x y=>cc κ x≠cc κ y):zmp (ts.map (zeu κ)) ts=some (jo (cc κ) ts):=by
 have hk:∀d∈ts.map (zeu κ),xo d=kq κ:=fun d hd=>by obtain⟨x,hx,rfl⟩:=z68.mp hd;exact zat h0 h1 (al x hx)
 have hkn:(ts=[]/\kn (ts.map (zeu κ))=0)\/kn (ts.map (zeu κ))=kq κ:=by
   cases ts with
   |nil=>exact .inl ⟨rfl,rfl⟩
   |cons x ts=>exact .inr (hk _ (by simp))
 unfold zmp;have hp:(ts.map (zeu κ)).map zfr=ts.map (cc κ):=by rw[z8b];rfl
 have hcond:kn (ts.map (zeu κ))<4/\(∀d∈ts.map (zeu κ),xo d=kn (ts.map (zeu κ)))/\((ts.map (zeu κ)).map zfr).Pairwise (·≠·):=by
   refine⟨?_,?_,?_⟩
   · rcases hkn with⟨_,e⟩ | e
     · rw[e];decide
     · rw[e];exact kq4 κ
   · rcases hkn with⟨e,_⟩ | e
     · subst e;intro d hd;cases hd
     · rw[e];exact hk
   · rw[hp,z8h];exact hd
 rw[z5g hcond,hp];have e:(ts.map (cc κ)).zip ts=ts.map (fun d=>(cc κ d,d)):=by
   clear al hd hk hkn hp hcond
   induction ts with
   |nil=>rfl
   |cons x ts ih=>rw[z5a,z5a,List.zip_cons_cons,ih]
 rw[e,za6 (c:=cc κ) (c':=fun p:List Int×D=>p.1) (fun d=>(cc κ d,d)) (fun _=>rfl),z8b];exact z64 some (List.map_id _)
theorem zg5{cn:B}{fr:Ev}{p:D->Bool}{a:Nat}(ha:S[a]? = some (.lst us)):∀(ds:List D),(∀x∈ds,cn (some x::fr) S=some (p x,S))->yb a us cn (eV 0) fr ds S=some (ds.filter p,S)
 | [],_=>ze6 ha
 | x::ds,hc=>by
   have ih:=zg5 ha ds fun y hy=>hc y (z40 _ hy);rw[zd4 ha,hc x (z5c ..)];simp only[Option.bind_some];cases g:p x with
   | true=>
     rw[z5g rfl,List.filter_cons_of_pos g];show((eV 0 (some x::fr) S).bind fun q=>(yb a us cn (eV 0) fr ds q.2).bind fun r=>some (q.1::r.1,r.2))=_;rw[show eV 0 (some x::fr) S=some (x,S)from rfl];simp only[Option.bind_some,ih]
   | false=>
     rw[z5n (by simp),List.filter_cons_of_neg (by rw[g];simp)];exact ih
theorem zzx{fr:List Nat}{e:E}{cn:B}{p:D->Bool}{a:Nat}(he:e ev S=some (.obj a,S))(ha:S[a]? = some (.lst us))(hc:∀x∈us,cn (some x::fr.map (zf1 ev)) S=some (p x,S)):jc fr (zc7 e) cn (eV 0) ev S=some (.lst (us.filter p),S):=by unfold jc zc7;rw[he];simp only[Option.bind_some,ha,zak,zg5 ha us hc,Option.map_some]
theorem zin{g:E}{fr:Ev}{ys ds:List D}(h:g (some x::fr) S=some (y,S))(ih:zch zed g fr ds S=some (ys,S)):zch zed g fr (x::ds) S=some (y::ys,S):=by unfold zch;rw[show zed (some x::fr) S=some (true,S)from rfl];simp only[Option.bind_some,z6s,h,ih]
theorem zd3{g:E}{fr:Ev}{f:D->D}:∀{ds:List D},(∀x∈ds,g (some x::fr) S=some (f x,S))->zch zed g fr ds S=some (ds.map f,S)
 | [],_=>rfl
 |x::ds,h=>zin (h x (z5c ..)) (zd3 fun z hz=>h z (z40 _ hz))
theorem zs7{fr:List Nat}{e g:E}{f:D->D}(he:e ev S=some (.lst ts,S))(hc:∀x∈ts,g (some x::fr.map (zf1 ev)) S=some (f x,S)):jc fr (zc7 e) zed g ev S=some (.lst (ts.map f),S):=by unfold jc zc7;rw[he];simp only[Option.bind_some,zak,zd3 hc,Option.map_some]
theorem zs5{fr:List Nat}{e g:E}{f:D->D}(he:e ev S=some (.lst ts,S))(hc:∀x∈ts,g (some x::fr.map (zf1 ev)) S=some (f x,S)):zb1 fr (zc7 e) zed g ev S=some (.obj S.length,S++[.lst (ts.map f)]):=by unfold zb1 zc7;rw[he];simp only[Option.bind_some,zak,zd3 hc,Option.map_some]
theorem z36{e:E}{n:Int}(h0:0<=n)(h1:n<=1000)(he:e ev S=some (.int n,S)):zv0 e ev S=some ((q8 0 n.toNat,none),S):=by
 have hz:sizeLine=16777216:=z6p;have c:-(2^62)<=n/\n<2^62/\n<=(sizeLine:Int):=⟨by omega,by omega,by omega⟩
 simp only[zv0,he,Option.bind_some];rw[z5g c]
theorem zs6{fr:List Nat}{e:E}{g:E}{m:Nat}{ys:List D}(hm:m<=1000)(he:e ev S=some (.int (m:Int),S))(hc:zch zed g (fr.map (zf1 ev)) (q8 0 m) S=some (ys,S)):jc fr (zv0 e) zed g ev S=some (.lst ys,S):=by unfold jc;rw[(z36 (by omega) (by omega) he).trans (by rw[Int.toNat_natCast])];simp only[Option.bind_some,zak,hc,Option.map_some]
end Pg
namespace Pg
open PySem L2 F Mt
variable {d d0 l r t x y:D}{ts us rt:List D}{h i j g rh:Nat}{n:Int}{S S0 S1:Sto}{ev:Ev}{T:D->Prop}{lt:D->D->Bool}{f:LT}{vs:List D}
theorem z2s:(Str.ofString "abc").length<=sizeLine:=by decide +kernel
theorem z0g:(Str.ofString "abc").cps.toList.length=3:=by decide +kernel
theorem z2t(c:Int):∃z,∀S:Sto,z9 S (.str (Str.ofString "abc")) (.int (c%3))=some (.str ⟨#[z]⟩):=by
 have x0:=z6r c (show(3:Int)≠0 by decide);have x1:=z58 c (show(0:Int)<3 by decide);generalize c%3=z at x0 x1;have hat:∃c,atI (Str.ofString "abc").cps.toList z=some c:=by
   have hz:z.toNat<(Str.ofString "abc").cps.toList.length:=by rw[z0g];omega
   have e3:=zbm (z4x hz);rw[show((z.toNat:Nat):Int)=z by omega]at e3;exact⟨_,e3⟩
 obtain⟨y,hy⟩:=hat;refine⟨y,fun S=>?_⟩;unfold z9;simp only[z5g z2s,hy];rfl
def tE8:E:=zaj (aC (eK (.int 8)) (aC (eK (.int 24)) (aC (eK (.int 72)) (aC (eK (.int 216)) (aC (eK (.int 648)) (aC (eK (.int 1944)) (aC (eK (.int 5832)) (aC (eK (.int 17496)) aN))))))))
theorem z1c:tE8 ev S=some (.tup [.int 8,.int 24,.int 72,.int 216,.int 648,.int 1944,.int 5832,.int 17496],S):=yi (a_c e_k (a_c e_k (a_c e_k (a_c e_k (a_c e_k (a_c e_k (a_c e_k (a_c e_k a_n)))))))) (z5l rfl)
def tB:C:=q9 2 (e2 ql (eV 2) (e2s z9 (eK (.str (Str.ofString "abc"))) (e2 jq (e2 zdb (eV 1) (e2s z9 tE8 (eV 3))) (eK (.int 3)))))
theorem zr4(κ c:Int):∀(m lo:Nat) (z:Str) (o:Option D),lo+m<=8->z.length<=lo->∃z':Str,z'.length<=8/\∃o',∀S,zbb 3 tB (q8 (lo:Int) m) [some (.int κ),some (.int c),some (.str z),o] S=some (.nx [some (.int κ),some (.int c),some (.str z'),o'],S)
 |0,lo,z,o,hm,hz=>⟨z,by omega,o,fun S=>rfl⟩
 | m+1,lo,z,o,hm,hz=>by
   have hs:sizeLine=16777216:=z6p;obtain⟨q,hq,iq⟩:∃q:Int,(0<q/\q<1073741824)/\∀S:Sto,z9 S (.tup [.int 8,.int 24,.int 72,.int 216,.int 648,.int 1944,.int 5832,.int 17496]) (.int lo)=some (.int q):=by
     have:lo=0\/lo=1\/lo=2\/lo=3\/lo=4\/lo=5\/lo=6\/lo=7:=by omega
     rcases this with rfl | rfl | rfl | rfl | rfl | rfl | rfl | rfl
     · exact⟨8,by decide,fun S=>rfl⟩
     · exact⟨24,by decide,fun S=>rfl⟩
     · exact⟨72,by decide,fun S=>rfl⟩
     · exact⟨216,by decide,fun S=>rfl⟩
     · exact⟨648,by decide,fun S=>rfl⟩
     · exact⟨1944,by decide,fun S=>rfl⟩
     · exact⟨5832,by decide,fun S=>rfl⟩
     · exact⟨17496,by decide,fun S=>rfl⟩
   obtain⟨y,hy⟩:=z2t (c/q);have l1:(⟨#[y]⟩:Str).length=1:=rfl;have ad:ql (.str z) (.str ⟨#[y]⟩)=some (.str (z++⟨#[y]⟩)):=by show(if z.length+(⟨#[y]⟩:Str).length<=sizeLine then some (D.str (z++⟨#[y]⟩))else none)=_;rw[z5g (by omega)]
   obtain⟨z',hz',o',ih⟩:=zr4 κ c m (lo+1) (z++⟨#[y]⟩) (some (.int lo)) (by omega) (by rw[Mt.str_len];omega);refine⟨z',hz',o',fun S=>?_⟩;rw[zcb,show((lo:Int)+1)=((lo+1:Nat):Int)from rfl];exact zde (zq (e_2 (e_v rfl) (qt e_k (e_2 (e_2 (e_v rfl) (qt z1c (e_v rfl) (iq _)) (zll hq)) e_k (yo (by decide))) (hy _)) ad)) (ih S)
theorem p60:zda (.int 10) (.int 60)=some (.int (10^60)):=by
 have:zsg 10 60=some (10^60):=by unfold zsg;rw[z5g (by decide)];rfl
 simp only[zda,F.opI,this];rfl
theorem p6:zda (.int 982451653) (.int 6)=some (.int (982451653^6)):=by
 have:zsg 982451653 6=some (982451653^6):=by unfold zsg;rw[z5g (by decide)];rfl
 simp only[zda,F.opI,this];rfl
theorem zja{κ:Int}(h0:0<=κ)(h1:κ<8)(c:Int)(c0:0<=c)(c1:c<999999937):∃x,zad κ x/\∀S,je [.int κ,.int c] S=some (x,S):=by
 by_cases q:κ<5
 · have lt5:∀S,bE (e2 zhq (eV 0) (eK (.int 5))) [some (.int κ),some (.int c),none,none] S=some (true,S):=fun S=>qo (e_2 (e_v rfl) e_k ((z0n _ _).trans (by rw[z5w q])));by_cases z:c%9=0
   · refine⟨.int ((c+5)*982451653^6%(2*10^60-1)+1-10^60),?_,fun S=>jv rfl (qj (qb (ztd (lt5 S) (qo (e_2 (e_2 (e_v rfl) e_k (yo (by decide))) e_k ((z0y _ _).trans (by rw[z5w z]))))) (zw (e_2 (e_2 (e_2 (e_2 (e_2 (e_v rfl) e_k (add_int _ _)) (e_2 e_k e_k p6) (zju (by omega))) (e_2 (e_2 e_k (e_2 e_k e_k p60) (zju (by decide))) e_k (sub_int _ _)) (yo (by decide))) e_k (add_int _ _)) (e_2 e_k e_k p60) (sub_int _ _)))))⟩;unfold zad;rw[z5g q];exact⟨_,rfl⟩
   · refine⟨.int (c/9%81-40),?_,fun S=>jv rfl (zi (zo (ztd (lt5 S) (qo (e_2 (e_2 (e_v rfl) e_k (yo (by decide))) e_k ((z0y _ _).trans (by rw[z5m z])))))) (qj (qb (lt5 S) (zw (e_2 (e_2 (e_2 (e_v rfl) e_k (zll (by decide))) e_k (yo (by decide))) e_k (sub_int _ _))))))⟩;unfold zad;rw[z5g q];exact⟨_,rfl⟩
 · have lt5:∀S,bE (e2 zhq (eV 0) (eK (.int 5))) [some (.int κ),some (.int c),none,none] S=some (false,S):=fun S=>qo (e_2 (e_v rfl) e_k ((z0n _ _).trans (by rw[z5m q])));have w0:=z6r c (show(8:Int)≠0 by decide);have w1:=z58 c (show(0:Int)<8 by decide);obtain⟨z,hz,o',lp⟩:=zr4 κ c (1+c%8).toNat 0 ⟨#[]⟩ none (by omega) (by decide);refine⟨.str z,?_,fun S=>jv rfl (zi (zo (zz9 (lt5 S))) (zi (zo (lt5 S)) (zi (zq (d:=.str ⟨#[]⟩) e_k) (zi (zhz (b:=tB) (e_2 e_k (e_2 (e_v rfl) e_k (yo (by decide))) (add_int _ _)) (by omega) (by omega) (lp S)) (zw (e_v rfl))))))⟩;unfold zad;rw[z5n q];exact⟨z,rfl,hz⟩
theorem ztu{e:E}{g:G}{j:Nat}{y:Str}{t:LT}{is:List Nat}{kv us ks r:List D}(he:e ev S=some (d,S))(hs:zkv S d=some us)(hj:S[j]? = some (.tab y t.qual))(hl:us.length<=100000)(hc:zf7 ev is=some kv)(hk:zif g t.params.args.length kv us S=some (ks,S))(hr:zmp ks us=some r):ze4 e g j y t is ev S=some (.lst r,S):=by unfold ze4;simp only[he,Option.bind_some,hs,hj,hc,hk,hr,Option.map_some];exact z5g ⟨trivial,trivial,hl⟩
theorem zjy{g:G}{kv:List D}{ky:D->D}(hn:zb7 S=true)(hv:noCL kv=true):∀{us:List D},(∀d∈us,noC d=true/\noC (ky d)=true/\g ([d]++kv) S=some (ky d,S))->zif g 1 kv us S=some (us.map ky,S)
 | [],_=>rfl
 | d::us,h=>by obtain⟨h1,h2,h3⟩:=h d (z5c ..);have ih:=zjy hn hv fun z hz=>h z (z40 _ hz);unfold zif;rw[z5g ⟨by rw[hn,hv];simp[noCL,h1],rfl⟩,h3];simp only[Option.bind_some,h2,hn,Bool.and_self,z6s,ih,Option.map_some,z5a]
theorem zo2{g:G}{a:As}{q:Nat}{t:LT}{cl:zLA}{is:List Nat}{ds kv:List D}{S2:Sto}(ha:a ev S=some (ds,S1))(hq:ev[q]? = some (some (.lam { t with cl:=cl })))(hc:zf7 ev is=some kv)(hg:g (ds++[.clo t kv]) S1=some (d,S2))(h1:noC d=true)(h2:zb7 S2=true):ze5 g a q t cl is ev S=some (d,S2):=by simp only[ze5,ha,Option.bind_some,hq,z6s,hc,hg,h1,h2,Bool.and_self]
theorem zyi{j:Nat}{y:Str}{t:LT}(ht':S[j]? = some (.tab y ((y++".<locals>.")++"<lambda>")))(ht:t.qual=(y++".<locals>.")++"<lambda>"):zzt j y t ev S=some (.lam t,S):=by unfold zzt;rw[ht'];exact z5g ⟨rfl,ht.symm⟩
theorem zgy{f:E}(h:f ev S=some (.lst ts,S1)):zb0 f ev S=some (.lst ts.reverse,S1):=by simp[zb0,h]
theorem zrb{lo hi:Option Int}(hx:x∈zlm ts lo hi):x∈ts:=z7d (z5r hx)
theorem zrc(lo hi:Option Int):(zlm ts lo hi).length<=ts.length:=by unfold zlm;rw[z49,z5o];omega
theorem z4a:lt_2≠lt_1:=fun e=>by have:=z64 (fun t:LT=>t.params.args.length) e;exact absurd this (by decide)
theorem zy0{κ:Int}(h0:0<=κ)(h1:κ<8)(tx:zad κ x)(ty:zad κ y):z0s ([x,y]++[.int κ]) S=some (.bl (ltk κ x y),S):=by show z0u [some x,some y,some (.int κ)] S=_;exact e_2 (zj (a_c (e_v rfl) (a_c (e_v rfl) a_n)) (zdn h0 h1 tx)) (zj (a_c (e_v rfl) (a_c (e_v rfl) a_n)) (zdn h0 h1 ty)) (zyj h0 h1 tx ty)
theorem zy1{κ:Int}(h0:0<=κ)(h1:κ<8)(tx:zad κ x):zyy ([x]++[.int κ]) S=some (zeu κ x,S):=by show z0v [some x,some (.int κ)] S=_;exact zj (a_c (e_v rfl) (a_c (e_v rfl) a_n)) (zdn h0 h1 tx)
theorem zvp:zg7 lt_2=some z0s:=by unfold zg7;rw[z5n z4a,z5g rfl]
theorem zzz:zrh lt_0=some zyz:=by unfold zrh;rw[z5g rfl]
def fs:D->D
 | .tup [a,_]=>a
 |d=>d
def sn:D->D
 | .tup [_,v]=>v
 |d=>d
def TP(κ:Int)(p:D):Prop:=∃a v,p=.tup [a,v]/\zad κ a/\Vl v
def ltp(κ:Int)(x y:D):Bool:=ltk κ (fs x) (fs y)
theorem z3y(κ:Int):Sw T (ltp κ) :=
 have w:Sw (fun _=>True) (ltk κ):=z3z κ
 ⟨fun x _=>w.irr _ trivial,fun x y z _ _ _=>w.tr _ _ _ trivial trivial trivial,fun x y z _ _ _=>w.co _ _ _ trivial trivial trivial⟩
theorem alk_p{κ:Int}:alk (ltp κ) x y↔cc κ (fs x)=cc κ (fs y):=z0d (κ:=κ) (x:=fs x) (y:=fs y)
theorem zsm(h:Vl x):noC x=true:=by rcases h with⟨i,rfl⟩ | ⟨z,rfl⟩ | rfl | ⟨b,rfl⟩ | ⟨i,z,rfl⟩ | ⟨i,j,z,rfl⟩<;>rfl
theorem zwg{κ:Int}(h:TP κ x):Thing 0 x:=by obtain⟨a,v,rfl,ha,hv⟩:=h;exact⟨a,v,rfl,zpl ha,hv⟩
theorem zx6{κ:Int}(h:TP κ x):noC x=true:=by obtain⟨a,v,rfl,ha,hv⟩:=h;show(noC a&&(noC v&&true))=true;rw[zgw ha,zsm hv];rfl
theorem zy2{κ:Int}(h0:0<=κ)(h1:κ<8)(hn:zb7 S=true)(tx:TP κ x)(ty:TP κ y):zyz ([x,y]++[.clo lt_2 [.int κ]]) S=some (.bl (ltp κ x y),S):=by
 obtain⟨a,v,rfl,ha,hv⟩:=tx;obtain⟨b,w,rfl,hb,hw⟩:=ty;show zb2 (fun _=>none) (fun _=>none) zg7 (eV 2) (aC (e2s z9 (eV 0) (eK (.int 0))) (aC (e2s z9 (eV 1) (eK (.int 0))) aN)) [some (.tup [a,v]),some (.tup [b,w]),some (.clo lt_2 [.int κ])] S=_;have nn:(noCL [a,b]&&zbv [.int κ]&&zb7 S)=true/\[a,b].length=lt_2.params.args.length:=⟨by rw[hn];simp only[noCL,zgw ha,zgw hb,z8w];rfl,rfl⟩
 have av:aC (e2s z9 (eV 0) (eK (.int 0))) (aC (e2s z9 (eV 1) (eK (.int 0))) aN) [some (.tup [a,v]),some (.tup [b,w]),some (.clo lt_2 [.int κ])] S=some ([a,b],S):=a_c (qt (e_v rfl) e_k rfl) (a_c (qt (e_v rfl) e_k rfl) a_n);have hv:eV 2 [some (.tup [a,v]),some (.tup [b,w]),some (.clo lt_2 [.int κ])] S=some (.clo lt_2 [.int κ],S):=e_v rfl;simp only[zb2,hv,Option.bind_some,zvp,av,z5g nn];exact zy0 h0 h1 ha hb
theorem zz8{κ:Int}(h0:0<=κ)(h1:κ<8):Bf (TP κ) (ltp κ) lt_0 [.clo lt_2 [.int κ]] :=
 ⟨rfl,rfl,fun x hx=>zx6 hx,⟨zyz,zzz,fun x y hx hy S hn=>zy2 h0 h1 hn hx hy⟩,z3y κ⟩
theorem zwf:∀i:Fin 999,(toString (i.val:Int):Str).length<=100:=by decide +kernel
theorem z1g{c:Int}(S:Sto):∃z:Str,z.length<=100/\zvz S [.int (c%999)]=some (.str z):=by
 have x0:=z6r c (show(999:Int)≠0 by decide);have x1:=z58 c (show(0:Int)<999 by decide);generalize c%999=i at x0 x1;have e:i=(((⟨i.toNat,by omega⟩:Fin 999).val:Nat):Int):=by show i=((i.toNat:Nat):Int);omega
 refine⟨toString i,by rw[e];exact zwf _,?_⟩;have hl:i.natAbs.log2<1920:=by
   rcases Nat.eq_zero_or_pos i.natAbs with q | q
   · rw[q];decide
   · exact(Nat.log2_lt (by omega)).mpr (z4w (show i.natAbs<2^10 by omega) (z9g (by decide) (by decide)))
 show(if i.natAbs.log2<1920 then some (D.str (toString i))else none)=_;rw[z5g hl]
theorem zpi(c:Int):∃v,Vl v/\∀S,xr [.int c] S=some (v,S):=by
 have hz:sizeLine=16777216:=z6p;obtain⟨z,hl,hs⟩:=z1g (c:=c) [];have lv:(Str.ofString "v").length=1:=by decide +kernel
 have ad:ql (.str (Str.ofString "v")) (.str z)=some (.str (Str.ofString "v"++z)):=by show(if(Str.ofString "v").length+z.length<=sizeLine then some (D.str (Str.ofString "v"++z))else none)=_;rw[z5g (by omega)]
 have row:∀S:Sto,zly (aC (eV 0) (aC (e2 ql (eK (.str (Str.ofString "v"))) (eA zvz (aC (e2 jq (eV 0) (eK (.int 999))) aN))) (aC (zaj (aC (e2 jq (eV 0) (eK (.int 7))) (aC (eK (.str (Str.ofString "t"))) aN))) (aC (eK .non) (aC (eK (.bl true)) (aC (eK (.int 0)) (aC (eK (.str (Str.ofString ""))) (aC (zaj (aC (e2 jq (eV 0) (eK (.int 3))) (aC (zaj (aC (eK (.int 1)) (aC (eK (.str (Str.ofString "a"))) aN))) aN))) aN)))))))) [some (.int c),none] S=some (.lst [.int c,.str (Str.ofString "v"++z),.tup [.int (c%7),.str (Str.ofString "t")],.non,.bl true,.int 0,.str (Str.ofString ""),.tup [.int (c%3),.tup [.int 1,.str (Str.ofString "a")]]],S):=fun S=>
   zlk (a_c (e_v rfl) (a_c (e_2 e_k (e_a (a_c (e_2 (e_v rfl) e_k (yo (by decide))) a_n) hs) ad) (a_c (yi (a_c (e_2 (e_v rfl) e_k (yo (by decide))) (a_c e_k a_n)) (z5l rfl)) (a_c e_k (a_c e_k (a_c e_k (a_c e_k (a_c (yi (a_c (e_2 (e_v rfl) e_k (yo (by decide))) (a_c (yi (a_c e_k (a_c e_k a_n)) (z5l rfl)) a_n)) (z5l rfl)) a_n)))))))) (z5l rfl)
 obtain⟨w,hw,ew⟩:=zh9 (c/8) (c:=8) (by decide);have fin:∀{v:D},Vl v->(∀S:Sto,z9 S (.lst [.int c,.str (Str.ofString "v"++z),.tup [.int (c%7),.str (Str.ofString "t")],.non,.bl true,.int 0,.str (Str.ofString ""),.tup [.int (c%3),.tup [.int 1,.str (Str.ofString "a")]]]) (.int w)=some v)->∃v,Vl v/\∀S,xr [.int c] S=some (v,S):=fun {v} hv ix=>
   ⟨v,hv,fun S=>jv rfl (zi (zq (row S)) (zw (qt (e_v rfl) (e_2 (e_2 (e_v rfl) e_k (zll (by decide))) e_k ew) (ix _))))⟩
 have:w=0\/w=1\/w=2\/w=3\/w=4\/w=5\/w=6\/w=7:=by omega
 rcases this with rfl | rfl | rfl | rfl | rfl | rfl | rfl | rfl
 · exact fin (.inl ⟨_,rfl⟩) fun S=>rfl
 · exact fin (.inr (.inl ⟨_,rfl⟩)) fun S=>rfl
 · exact fin (.inr (.inr (.inr (.inr (.inl ⟨_,_,rfl⟩))))) fun S=>rfl
 · exact fin (.inr (.inr (.inl rfl))) fun S=>rfl
 · exact fin (.inr (.inr (.inr (.inl ⟨_,rfl⟩)))) fun S=>rfl
 · exact fin (.inl ⟨_,rfl⟩) fun S=>rfl
 · exact fin (.inr (.inl ⟨_,rfl⟩)) fun S=>rfl
 · exact fin (.inr (.inr (.inr (.inr (.inr ⟨_,_,_,rfl⟩))))) fun S=>rfl
end Pg
namespace Pg
open PySem L2 F Mt
variable {k:Nat}{d l r t:D}{ts lt rt:List D}{h lh rh:Nat}{S S1 S2:Sto}{ev e:Ev}
theorem zw7{u:B}{a b:R}(h:u ev S=some (true,S1)):rIf u a b ev S=a ev S1:=by simp[rIf,h]
theorem z1h{c:C}{q:R}(h:c ev S=some (.nx e,S1)):zw8 c q ev S=q e S1:=by simp[zw8,h]
theorem zr9{g:GR}{a:As}{ds:List D}(h:a ev S=some (ds,S1)):zm4 g a ev S=g ds S1:=by simp[zm4,h]
theorem zue{c:Str}{a:As}{ds:List D}(h:a ev S=some (ds,S1))(hl:ds.length<=16777216):zjj c a ev S=some (c,S1):=by have hz:sizeLine=16777216:=z6p;simp[zjj,h,hz,hl]
theorem zsa{N n:Nat}{q:R}{ds:List D}(hl:ds.length=n):zhk N n q ds S=q (ds.map some++List.replicate (N-ds.length) none) S:=by simp[zhk,hl]
theorem zts{c a:C}{q:R}{cat:Str->Bool}{i:Nat}{cls:Str}(h:c ev S=none)(hr:q ev S=some (cls,S1))(hc:cat cls=true)(ha:a (ev.set i (some (.obj S1.length))) (S1++[.exc cls])=some (.nx e,S2)) :
   zw0 c q cat i a ev S=some (.nx (e.set i none),S2):=by simp[zw0,h,hr,hc,ha]
theorem isx{u:Up}{j:Nat}{c:Str}{d:D}{b:Bool}(h:S[j]? = some (.exc c))(q:u.ask c d=some b):zsq u S [.obj j,d]=some (.bl b):=by simp[zsq,h,q]
theorem zpo{c:B}{b:C}(h:c ev S=some (true,S1)):sIf c zck b ev S=none:=by simp[sIf,h,zck]
theorem ztb{N n:Nat}{c:C}{ds:List D}(h:c (ds.map some++List.replicate (N-ds.length) none) S=none):z5 N n c ds S=none:=by simp[z5,h]
theorem zps{a b:C}(h:a ev S=none):qa a b ev S=none:=by simp[qa,h]
theorem zmu{a b:C}(h:a ev S=some (.nx e,S1))(q:b e S1=none):qa a b ev S=none:=by simp[qa,h,q]
theorem zov{f:E}(h:f ev S=none):zbf f ev S=none:=by simp[zbf,h]
theorem zp1{f:E}(h:f ev S=none):qu f ev S=none:=by simp[qu,h]
theorem zha{g:G}{a:As}{ds:List D}(h:a ev S=some (ds,S1))(q:g ds S1=none):zm g a ev S=none:=by simp[zm,h,q]
theorem zw6{f:E}{r:R}(h:f ev S=some (d,S1)):zm3 f r ev S=r ev S1:=by simp[zm3,h]
end Pg
namespace Pg
open PySem L2 F Mt
variable {d d0 l r t x y:D}{ts us rt:List D}{h i j g rh:Nat}{n:Int}{S S0 S1:Sto}{ev:Ev}{T:D->Prop}{lt:D->D->Bool}{f:LT}{vs:List D}
theorem zrw{f:E}{g:As}(h:f ev S=none):aC f g ev S=none:=by simp[aC,h]
theorem zrv{f:E}{g:As}(h:f ev S=some (d,S1))(q:g ev S1=none):aC f g ev S=none:=by simp[aC,h,q]
theorem zlp{g:G}{a:As}(h:a ev S=none):zm g a ev S=none:=by simp[zm,h]
def kT:B:=(bE (e2 xy (zm qi (aC (eV 1) (aC (eV 0) aN))) (zm qi (aC (eV 1) (aC (eV 2) aN)))))
theorem z17{κ:Int}(h0:0<=κ)(h1:κ<8)(tx:zad κ x)(ty:zad κ y):kT [some x,some (.int κ),some y] S=some (decide (cc κ x=cc κ y),S) :=
 qo (e_2 (zj (a_c (e_v rfl) (a_c (e_v rfl) a_n)) (zdn h0 h1 tx)) (zj (a_c (e_v rfl) (a_c (e_v rfl) a_n)) (zdn h0 h1 ty)) (zso h0 h1 tx ty))
def sB:C:=(qa (q9 5 (zm je (aC (eV 1) (aC (zm z8 (aC (eV 0) (aC (e2 ql (eK (.int 20)) (eV 4)) aN))) aN)))) (sIf (bE (e2 xy (jc [1,5] (zc7 (eV 3)) kT (eV 0)) (zly aN))) (zap (eV 3) (eV 5)) jw))
theorem keys_loop(ns:List Int)(hn:ns.length<=63){κ:Int}(h0:0<=κ)(h1:κ<8){m:Int}:∀(js:List D),(∀x∈js,∃i:Int,x=.int i/\0<=i/\i<10000)->∀(us:List D) (o5 o6:Option D),Al (zad κ) us->us.Pairwise (fun x y=>cc κ x≠cc κ y)->us.length+js.length<100000 ->
   ∃us' o5' o6',Al (zad κ) us'/\us'.Pairwise (fun x y=>cc κ x≠cc κ y)/\us'.length<=us.length+js.length/\zbb 4 sB js [some (.lst (ns.map D.int)),some (.int κ),some (.int m),some (.obj S.length),o5,o6] (S++[.lst us])=some (.nx [some (.lst (ns.map D.int)),some (.int κ),some (.int m),some (.obj S.length),o5',o6'],S++[.lst us'])
 | [],_,us,o5,o6,al,pw,hl=>⟨us,o5,o6,al,pw,by simp,rfl⟩
 | jj::js,hj,us,o5,o6,al,pw,hl=>by
   obtain⟨i,rfl,i0,i1⟩:=hj jj (z5c ..);rw[List.length_cons]at hl;obtain⟨c,c0,c1,hc⟩:=zac ns hn (q:=20+i) (by omega) (by omega);obtain⟨x,tx,cx⟩:=zja h0 h1 c c0 c1;have hat:(S++[MO.lst us])[S.length]? = some (.lst us):=zdl S _;have cmp:jc [1,5] (zc7 (eV 3)) kT (eV 0) [some (.lst (ns.map D.int)),some (.int κ),some (.int m),some (.obj S.length),some (.int i),some x] (S++[.lst us])=some (.lst (us.filter fun z=>decide (cc κ z=cc κ x)),S++[.lst us]):=zzx (e_v rfl) hat fun z hz=>z17 h0 h1 (al z hz) tx;have step1:q9 5 (zm je (aC (eV 1) (aC (zm z8 (aC (eV 0) (aC (e2 ql (eK (.int 20)) (eV 4)) aN))) aN))) [some (.lst (ns.map D.int)),some (.int κ),some (.int m),some (.obj S.length),some (.int i),o6] (S++[.lst us])=some (.nx [some (.lst (ns.map D.int)),some (.int κ),some (.int m),some (.obj S.length),some (.int i),some x],S++[.lst us]):=zq (zj (a_c (e_v rfl) (a_c (zj (a_c (e_v rfl) (a_c (e_2 e_k (e_v rfl) (add_int _ _)) a_n)) (hc _)) a_n)) (cx _));have tst:=qo (e_2 cmp (zlk (ds:=[]) a_n (z5y _)) (zsx _));by_cases hf:us.filter (fun z=>decide (cc κ z=cc κ x))=[]
   · have hne:∀z∈us,cc κ z≠cc κ x:=fun z hz e=>by have:=z83.mp hf z hz;exact this (z5w e)
     rw[hf]at tst;obtain⟨us',o5',o6',al',pw',l',ih⟩:=keys_loop ns hn h0 h1 js (fun x hx=>hj x (z40 _ hx)) (us++[x]) (some (.int i)) (some x) (fun z hz=>(z5k.mp hz).elim (al z) fun e=>by rw[z43.mp e];exact tx) (z4y.mpr ⟨pw,z7g _ _,fun a ha b hb=>by rw[z43.mp hb];exact hne a ha⟩) (by rw[z4t];simp;omega);refine⟨us',o5',o6',al',pw',by rw[z4t]at l';simp at l' ⊢;omega,zde (zi step1 (qb tst ?_)) ih⟩;have:=zc6 (q:=3) (j:=S.length) (S:=S++[.lst us]) (us:=us) (v:=eV 5) (x:=x) (ev:=[some (.lst (ns.map D.int)),some (.int κ),some (.int m),some (.obj S.length),some (.int i),some x]) rfl hat (e_v rfl) (by omega);simpa using this
   · have he:(us.filter fun z=>decide (cc κ z=cc κ x)).isEmpty=false:=by
       cases g:us.filter fun z=>decide (cc κ z=cc κ x) with
       |nil=>exact absurd g hf
       |cons _ _=>rfl
     rw[he]at tst;obtain⟨us',o5',o6',al',pw',l',ih⟩:=keys_loop ns hn h0 h1 js (fun x hx=>hj x (z40 _ hx)) us (some (.int i)) (some x) al pw (by omega);exact⟨us',o5',o6',al',pw',by rw[List.length_cons];omega,zde (zi step1 (zo tst)) ih⟩
theorem znn{κ:Int}:∀{l:List D},Al (zad κ) l->noCL l=true
 | [],_=>rfl
 | x::l,h=>by unfold noCL;rw[zgw h.head,znn h.tail];rfl
def prE:E:=(zaj (aC (e2s z9 (eV 1) (eV 0)) (aC (zm xr (aC (zm z8 (aC (eV 2) (aC (e2 ql (eK (.int 100)) (eV 0)) aN))) aN)) aN)))
theorem znb(ns:List Int)(hn:ns.length<=63){κ:Int}{ks:List D}(al:Al (zad κ) ks):∀(m lo:Nat),lo+m=ks.length->lo+m<=1000->∃ps:List D,ps.map fs=ks.drop lo/\Al (TP κ) ps/\∀S,zch zed prE [some (.lst ks),some (.lst (ns.map D.int))] (q8 (lo:Int) m) S=some (ps,S)
 |0,lo,h1,h2=>⟨[],by rw[z6l (by omega)];rfl,fun x hx=>(by cases hx),fun S=>rfl⟩
 | m+1,lo,h1,h2=>by
   obtain⟨ps,e1,e2,e3⟩:=znb ns hn al m (lo+1) (by omega) (by omega);obtain⟨c,c0,c1,hc⟩:=zac ns hn (q:=100+lo) (by omega) (by omega);obtain⟨v,hv,cv⟩:=zpi c;have hlo:lo<ks.length:=by omega
   refine⟨.tup [ks[lo],v]::ps,?_,fun z hz=>?_,fun S=>?_⟩
   · rw[z5a,e1,z6v hlo];rfl
   · rcases z46.mp hz with rfl | hz
     · exact⟨_,v,rfl,al _ (z74 hlo),hv⟩
     · exact e2 z hz
   · rw[zcb,show((lo:Int)+1)=((lo+1:Nat):Int)from rfl];exact zin (yi (a_c (qt (e_v rfl) (e_v rfl) (zbm (z4x hlo))) (a_c (zj (a_c (zj (a_c (e_v rfl) (a_c (e_2 e_k (e_v rfl) (add_int _ _)) a_n)) (hc _)) a_n) (cv _)) a_n)) (z5l rfl)) (e3 S)
theorem zqh(ns:List Int)(hn:ns.length<=63){κ:Int}(h0:0<=κ)(h1:κ<8){m:Nat}(hm:m<=1000)(hS:SB S)(hc:zb7 S=true)(ht:S[2]? = some (.tab "_law_pairs" ((("_law_pairs":Str)++".<locals>.")++"<lambda>")))(h2:3<=S.length) :
   ∃ps,Al (TP κ) ps/\Srt (ltp κ) ps/\ps.length<=m/\k9 [.lst (ns.map D.int),.int κ,.int m] S=some (.lst ps,S):=by
 obtain⟨us,o5,o6,al,pw,hl,lp⟩:=keys_loop ns hn h0 h1 (S:=S) (m:=m) (q8 0 m) (rng (by omega)) [] none none (fun x hx=>by cases hx) List.Pairwise.nil (by rw[zh4];simp;omega);rw[zh4]at hl;have hn2:zb7 (S++[.lst us])=true:=by unfold zb7 at *;rw[List.all_append,hc];show(true&&(z0l (.lst us)&&true))=true;rw[show z0l (.lst us)=noCL us from rfl,znn al];rfl
 have al2:Al (zad κ) (jo (cc κ) us):=zqs al;have sr2:=znw pw;have l2:(jo (cc κ) us).length<=m:=by rw[(jz us).length_eq];simpa using hl
 have so:ze4 (eV 3) zyy 2 "_law_pairs" lt_1 [1] [some (.lst (ns.map D.int)),some (.int κ),some (.int m),some (.obj S.length),o5,o6] (S++[.lst us])=some (.lst (jo (cc κ) us),S++[.lst us]):=by
   refine ztu (us:=us) (kv:=[.int κ]) (ks:=us.map (zeu κ)) (e_v rfl) ?_ ?_ (by simp at hl;omega) rfl ?_ (zpp h0 h1 al pw)
   · show(match (S++[MO.lst us])[S.length]? with | some (.lst ds)=>some ds | _=>none)=some us;rw[zdl]
   · rw[z5v (by omega)];exact ht
   · exact zjy hn2 rfl fun x hx=>⟨zgw (al x hx),zx7 h0 h1 (al x hx),zy1 h0 h1 (al x hx)⟩
 generalize jo (cc κ) us=ks at *;obtain⟨ps,p1,p2,p3⟩:=znb ns hn al2 ks.length 0 (by omega) (by omega);rw[z78]at p1;have pl:ps.length=ks.length:=by rw[<-p1,z56]
 refine⟨ps,p2,?_,by omega,?_⟩
 · rw[<-p1]at sr2;exact z8h.mp sr2
 · exact zn9 (J:=[.lst us]) hS (jv rfl (zi (zq (zs1 a_n (z5y _))) (zi (zhz (n:=(m:Int)) (b:=sB) (S1:=S++[.lst []]) (e_v rfl) (by omega) (by omega) (by rw[Int.toNat_natCast];exact lp)) (zi (zq so) (zw (zs6 (m:=ks.length) (by omega) (e_a (a_c (e_v rfl) a_n) rfl) (p3 _))))))) (zbk (k:=0) fun x hx=>zwg (p2 x hx))
def tA:MO:=.tab "_law_asked" ((("_law_asked":Str)++".<locals>.")++"<lambda>")
def tP:MO:=.tab "_law_pairs" ((("_law_pairs":Str)++".<locals>.")++"<lambda>")
def tK:MO:=.tab "by_key" ((("by_key":Str)++".<locals>.")++"<lambda>")
def Z(n:Int):Sto:=[tK,tA,tP,wd (zbn 0) n]
theorem zwb{new:List D}{T:Sto}(w:Wt 0 3 (Z n) n new T):T=Z (n+new.length):=by
 apply List.ext_getElem?;intro q
 match q with
 |0=>rw[w.ne 0 (by omega)];rfl
 |1=>rw[w.ne 1 (by omega)];rfl
 |2=>rw[w.ne 2 (by omega)];rfl
 |3=>exact w.at_
 |q+4=>rw[w.ne (q+4) (by omega)];rfl
theorem z0i:zb7 (Z n)=true:=rfl
theorem zt9{L:Sto}(h:∀m∈L,∀q,zpf q m=true):SB L:=fun m hm=>h m hm _
theorem z_b:∀m∈Z n,∀q,zpf q m=true:=fun m hm q=>by
 rcases z46.mp hm with rfl | hm
 · rfl
 rcases z46.mp hm with rfl | hm
 · rfl
 rcases z46.mp hm with rfl | hm
 · rfl
 rw[z43.mp hm];exact zwc (k:=0) _ _
theorem z3j:SB (Z n):=zt9 z_b
theorem zmd{s e:Nat}(hs:s<=e)(he:e<=ts.length):turn s e (turn s e ts)=ts:=by
 unfold turn;have l1:(ts.take s).length=s:=by rw[z49];omega
 have l2:(((ts.take e).drop s).reverse).length=e-s:=by rw[z6g,z5o,z49];omega
 have t1:(ts.take s++((ts.take e).drop s).reverse++ts.drop e).take s=ts.take s:=by rw[z48,z6z (by omega),z59 (by omega)]
 have t2:(ts.take s++((ts.take e).drop s).reverse++ts.drop e).take e=ts.take s++((ts.take e).drop s).reverse:=by rw[z6z (by rw[z4t];omega),z59 (by rw[z4t];omega)]
 have t3:(ts.take s++((ts.take e).drop s).reverse++ts.drop e).drop e=ts.drop e:=by rw[z6y (by rw[z4t];omega),z6l (by rw[z4t];omega),List.nil_append]
 rw[t1,t2,t3,z6y (by omega),z6l (by omega),List.nil_append,z7v];have:ts.take s++(ts.take e).drop s=ts.take e:=by have h:=z6e s (ts.take e);rw[qai,z70 hs]at h;exact h
 rw[this,z6e]
theorem zpm(ns:List Int)(hn:ns.length<=63)(ht:∀x∈ts,Thing 0 x)(hl:ts.length<=1000):∃d h n',Mk 0 d ts h/\kz [.lst (ns.map D.int),.obj 3,.lst ts] (Z n)=some (d,Z n'):=by
 obtain⟨c,c0,c1,hc⟩:=zac ns hn (q:=3) (by decide) (by decide);obtain⟨w,hw,ew⟩:=zh9 c (c:=3) (by decide);have s1:q9 3 (e2 jq (zm z8 (aC (eV 0) (aC (eK (.int 3)) aN))) (eK (.int 3))) [some (.lst (ns.map D.int)),some (.obj 3),some (.lst ts),none,none,none,none] (Z n)=some (.nx [some (.lst (ns.map D.int)),some (.obj 3),some (.lst ts),some (.int w),none,none,none],Z n):=zq (e_2 (zj (a_c (e_v rfl) (a_c e_k a_n)) (hc _)) e_k ew);have:w=0\/w=1\/w=2:=by omega
 rcases this with rfl | rfl | rfl
 · obtain⟨d,h,new,T1,c,rr⟩:=zcd (k:=0) (i:=3) (n:=n) (P:=fun _=>True) (S:=Z n) rfl ht (by omega);have eT:=zwb rr.wt;subst eT;exact⟨d,h,_,rr.mm,jv rfl (zi s1 (qj (qb (qo (e_2 (e_v rfl) e_k rfl)) (zw (zj (a_c (e_v rfl) (a_c (zu0 (e_v rfl)) a_n)) c)))))⟩
 · obtain⟨d,h,new,T1,c,rr⟩:=zcd (k:=0) (i:=3) (n:=n) (P:=fun _=>True) (S:=Z n) (ts:=ts.reverse) rfl (zw5 ht) (by rw[z6g];omega);have eT:=zwb rr.wt;subst eT;obtain⟨d',new',T2,c',rr',_⟩:=zi7 (k:=0) (i:=3) (n:=n+new.length) (P:=fun _=>True) (S:=Z (n+new.length)) rr.mm rfl (z0c rr.mm);have eT:=zwb rr'.wt;subst eT;have mm:=rr'.mm;rw[z7v]at mm;exact⟨d',h,_,mm,jv rfl (zi s1 (zi (zo (qo (e_2 (e_v rfl) e_k rfl))) (qj (qb (qo (e_2 (e_v rfl) e_k rfl)) (zw (xf (e_v rfl) (qw (n:=n) rfl) (zbq _ _) (a_c (zj (a_c (e_v rfl) (a_c (zgy (e_v rfl)) a_n)) c) a_n) c'))))))⟩
 · obtain⟨c4,_,_,hc4⟩:=zac ns hn (q:=4) (by decide) (by decide);obtain⟨c5,_,_,hc5⟩:=zac ns hn (q:=5) (by decide) (by decide);obtain⟨s,hs,es⟩:=znp c4 ts.length;obtain⟨e,he,ee⟩:=znp c5 (ts.length-s);have e1:jq (.int c5) (.int ((ts.length:Int)+1-(s:Int)))=some (.int e):=by rw[show(ts.length:Int)+1-(s:Int)=((ts.length-s:Nat):Int)+1 by omega];exact ee
   have hse:s<=s+e:=by omega
   have hel:s+e<=ts.length:=by omega
   have tt:∀z∈turn s (s+e) ts,Thing 0 z:=fun z hz=>ht z (by
     unfold turn at hz;rcases z5k.mp hz with q | q
     · rcases z5k.mp q with q | q
       · exact z5r q
       · exact z5r (z7d (z73.mp q))
     · exact z7d q)
   obtain⟨d,h,new,T1,c,rr⟩:=zcd (k:=0) (i:=3) (n:=n) (P:=fun _=>True) (S:=Z n) (ts:=turn s (s+e) ts) rfl tt (by rw[zfc hse hel];omega);have eT:=zwb rr.wt;subst eT;obtain⟨d',h',new',T2,c',rr'⟩:=zee (k:=0) (i:=3) (n:=n+new.length) (P:=fun _=>True) (S:=Z (n+new.length)) (s:=s) (e:=s+e) rfl rr.mm (by rw[zfc hse hel];omega) hse (by rw[zfc hse hel];exact hel) (z0c rr.mm);have eT:=zwb rr'.wt;subst eT;have mm:=rr'.mm;rw[zmd hse hel]at mm;refine⟨d',h',_,mm,jv rfl (zi s1 (zi (zo (qo (e_2 (e_v rfl) e_k rfl))) (zi (zo (qo (e_2 (e_v rfl) e_k rfl))) (zi (zq (e_2 (zj (a_c (e_v rfl) (a_c e_k a_n)) (hc4 _)) (e_2 (e_a (a_c (e_v rfl) a_n) rfl) e_k (add_int _ _)) es)) (zi (zq (d:=.int ((s+e:Nat):Int)) (e_2 (e_v rfl) (e_2 (zj (a_c (e_v rfl) (a_c e_k a_n)) (hc5 _)) (e_2 (e_2 (e_a (a_c (e_v rfl) a_n) rfl) e_k (add_int _ _)) (e_v rfl) (sub_int _ _)) e1) (add_int _ _))) (zi (zq (zgy (zv3 (e_v rfl) (p_e (e_v rfl)) (p_e (e_v rfl)) (zwv hse hel)))) (zw (zj (a_c (e_v rfl) (a_c (zj (a_c (e_v rfl) (a_c (e_2 (e_2 (zv3 (e_v rfl) p_n (p_e (e_v rfl)) (zt6 s)) (e_v rfl) (zea (by simp only[z49,z6g,z5o];omega))) (zv3 (e_v rfl) (p_e (e_v rfl)) p_n (zt7 hel)) (zea (by simp only[z4t,z49,z6g,z5o];omega))) a_n)) c) (a_c (e_v rfl) (a_c (e_v rfl) a_n)))) c'))))))))⟩
theorem zs9(h:S[0]? = some tK)(c:D):xc [c] S=some (.clo lt_0 [c],S):=by unfold xc zva;rw[z5g (show[c].length=1 from rfl),h];exact z5g ⟨rfl,rfl⟩
theorem zxl(B:Bf T lt f vs)(hn:zb7 S=true)(tx:T x)(s:Ste T lt d ts h)(hl:ts.length<=2000)(g:hs lt ts x=true):qm [d,x,.clo f vs] S=some (.int (cb lt ts x:Nat),S):=by have c1:=zgs B hn tx s hl;have c2:=zko B hn tx s hl;rw[g]at c2;exact jv rfl (zi (zq (zj (a_c (e_v rfl) (a_c (e_v rfl) (a_c (e_v rfl) a_n))) c1)) (zi (zo (ztc (qo (zj (a_c (e_v rfl) (a_c (e_v rfl) (a_c (e_v rfl) (a_c (e_v rfl) a_n)))) c2)))) (zw (e_v rfl))))
theorem zxm(B:Bf T lt f vs)(hn:zb7 S=true)(tx:T x)(s:Ste T lt d ts h)(hl:ts.length<=2000)(g:hs lt ts x=false):qm [d,x,.clo f vs] S=none/\ja [d,x,.clo f vs] S=some (Str.ofString "NoThing",S):=by have c1:=zgs B hn tx s hl;have c2:=zko B hn tx s hl;rw[g]at c2;have s1:q9 3 (zm yp (aC (eV 0) (aC (eV 1) (aC (eV 2) aN)))) [some d,some x,some (.clo f vs),none] S=some (.nx [some d,some x,some (.clo f vs),some (.int (cb lt ts x:Nat))],S):=zq (zj (a_c (e_v rfl) (a_c (e_v rfl) (a_c (e_v rfl) a_n))) c1);have t1:zel (bE (zm xb (aC (eV 0) (aC (eV 3) (aC (eV 1) (aC (eV 2) aN)))))) [some d,some x,some (.clo f vs),some (.int (cb lt ts x:Nat))] S=some (true,S):=z4l (qo (zj (a_c (e_v rfl) (a_c (e_v rfl) (a_c (e_v rfl) (a_c (e_v rfl) a_n)))) c2));refine⟨ztb (zmu s1 (zps (zpo t1))),?_⟩;unfold ja;rw[zsa (n:=3) rfl];unfold ym;show zw8 _ _ [some d,some x,some (.clo f vs),none] S=_;rw[z1h s1,zw7 t1];exact zue (a_c e_k a_n) (by simp)
theorem zgo:xk [x] S=some (.tup [x,.non],S):=jv rfl (zw (yi (a_c (e_v rfl) (a_c e_k a_n)) (z5l rfl)))
theorem zwh{κ:Int}(tx:zad κ x):TP κ (.tup [x,.non]):=⟨x,.non,rfl,tx,.inr (.inr (.inl rfl))⟩
theorem zhu{κ:Int}(h0:0<=κ)(h1:κ<8)(tx:zad κ x)(s:Ste (TP κ) (ltp κ) d ts h)(hl:ts.length<=1000)(hn:zb7 S=true)(hk:S[0]? = some tK)(g:hs (ltp κ) ts (.tup [x,.non])=true):∃y∈ts,cc κ (fs y)=cc κ x/\x9 [d,x,.clo lt_2 [.int κ]] S=some (sn y,S):=by
 have B:=zz8 h0 h1;have tp:=zwh tx;have c1:=zxl B hn tp s (by omega) g;obtain⟨y,hy,r⟩:=(zyv B.sw tp s.al s.sr).mp g;have hm:=z5t hy;have hd:y∈ts.drop (cb (ltp κ) ts (.tup [x,.non])):=z5t (i:=0) (by rw[z8x,Nat.add_zero];exact hy);have ak:alk (ltp κ) y (.tup [x,.non]):=⟨(zf6 B.sw tp s.al s.sr).2 y hd,r⟩
 obtain⟨a,v,rfl,ha,hv⟩:=s.al y hm;have av:(aC (eV 0) (aC (zm xk (aC (eV 1) aN)) (aC (zm xc (aC (eV 2) aN)) aN))) [some d,some x,some (.clo lt_2 [.int κ])] S=some ([d,.tup [x,.non],.clo lt_0 [.clo lt_2 [.int κ]]],S):=a_c (e_v rfl) (a_c (zj (a_c (e_v rfl) a_n) zgo) (a_c (zj (a_c (e_v rfl) a_n) (zs9 hk _)) a_n));have c2:=z0a s.mm (by omega) hy S;have e1:zm zu9 (aC (eV 0) (aC (zm qm (aC (eV 0) (aC (zm xk (aC (eV 1) aN)) (aC (zm xc (aC (eV 2) aN)) aN)))) aN)) [some d,some x,some (.clo lt_2 [.int κ])] S=some (.tup [a,v],S):=zj (a_c (e_v rfl) (a_c (zj av c1) a_n)) c2;have ck:=alk_p.mp ak;have e2:x9 [d,x,.clo lt_2 [.int κ]] S=some (v,S):=jv rfl (zw (qt e1 e_k rfl));exact⟨.tup [a,v],hm,ck,e2⟩
theorem zhv{κ:Int}(h0:0<=κ)(h1:κ<8)(tx:zad κ x)(s:Ste (TP κ) (ltp κ) d ts h)(hl:ts.length<=1000)(hn:zb7 S=true)(hk:S[0]? = some tK)(g:hs (ltp κ) ts (.tup [x,.non])=false):x9 [d,x,.clo lt_2 [.int κ]] S=none/\x6 [d,x,.clo lt_2 [.int κ]] S=some (Str.ofString "NoThing",S):=by
 obtain⟨c1,c2⟩:=zxm (zz8 h0 h1) hn (zwh tx) s (by omega) g;have av:(aC (eV 0) (aC (zm xk (aC (eV 1) aN)) (aC (zm xc (aC (eV 2) aN)) aN))) [some d,some x,some (.clo lt_2 [.int κ])] S=some ([d,.tup [x,.non],.clo lt_0 [.clo lt_2 [.int κ]]],S):=a_c (e_v rfl) (a_c (zj (a_c (e_v rfl) a_n) zgo) (a_c (zj (a_c (e_v rfl) a_n) (zs9 hk _)) a_n));constructor
 · refine ztb (zp1 ?_);show e2s z9 (zm zu9 (aC (eV 0) (aC (zm qm (aC (eV 0) (aC (zm xk (aC (eV 1) aN)) (aC (zm xc (aC (eV 2) aN)) aN)))) aN))) (eK (.int 1)) [some d,some x,some (.clo lt_2 [.int κ])] S=none;have e0:zm qm (aC (eV 0) (aC (zm xk (aC (eV 1) aN)) (aC (zm xc (aC (eV 2) aN)) aN))) [some d,some x,some (.clo lt_2 [.int κ])] S=none:=zha av c1;have e1:zm zu9 (aC (eV 0) (aC (zm qm (aC (eV 0) (aC (zm xk (aC (eV 1) aN)) (aC (zm xc (aC (eV 2) aN)) aN)))) aN)) [some d,some x,some (.clo lt_2 [.int κ])] S=none:=zlp (zrv (e_v rfl) (zrw e0));simp only[e2s,e1,Option.bind_none]
 · unfold x6;rw[zsa (n:=3) rfl];unfold zc8;show zm3 _ _ [some d,some x,some (.clo lt_2 [.int κ])] S=_;rw[zw6 (e_v rfl),zr9 av];exact c2
theorem zk1{κ:Int}(h0:0<=κ)(h1:κ<8)(tx:zad κ x)(s:Ste (TP κ) (ltp κ) d ts h)(hl:ts.length<=1000)(g:hs (ltp κ) ts (.tup [x,.non])=false):yg [d,x,.clo lt_2 [.int κ]] (Z n)=some (.lst [.bl true,.bl true,.bl false],Z n):=by obtain⟨c1,c2⟩:=zhv h0 h1 tx s hl (z0i (n:=n)) rfl g;have hx:(Z n++[MO.exc (Str.ofString "NoThing")])[(Z n).length]? = some (.exc (Str.ofString "NoThing")):=zdl _ _;refine zn9 (J:=[.exc (Str.ofString "NoThing")]) z3j (jv rfl (zi (zq (zlk (ds:=[]) a_n (z5y _))) (zi (zts (zov (zha (a_c (e_v rfl) (a_c (e_v rfl) (a_c (e_v rfl) a_n))) c1)) ((zr9 (a_c (e_v rfl) (a_c (e_v rfl) (a_c (e_v rfl) a_n)))).trans c2) (by decide +kernel) (zi (zq (e_a (a_c (e_v rfl) (a_c (yi (a_c e_k (a_c e_k (a_c e_k (a_c e_k (a_c e_k (a_c e_k (a_c e_k (a_c e_k (a_c e_k (a_c e_k a_n)))))))))) (z5l rfl)) a_n)) (isx hx (b:=false) (by decide +kernel)))) (zq (zlk (a_c (e_a (a_c (e_v rfl) (a_c e_k a_n)) (isx hx (b:=true) (by decide +kernel))) (a_c (e_a (a_c (e_v rfl) (a_c e_k a_n)) (isx hx (b:=true) (by decide +kernel))) (a_c (e_v rfl) a_n))) (z5l rfl))))) (zw (e_v rfl))))) rfl
theorem zmx(hv:Vl x):j6 [x,x] S=some (.bl true,S):=by
 have pq:pl 150 x=true:=zne (by decide) (z1k hv);have gen:zlx S [x,.ty "bool"]=some (.bl false)->j6 [x,x] S=some (.bl true,S):=fun h=>
   jv rfl (zi (zo (zvt (qo (e_a (a_c (e_v rfl) (a_c e_k a_n)) h)) (qo (e_a (a_c (e_v rfl) (a_c e_k a_n)) h)))) (zw (e_2 (e_v rfl) (e_v rfl) (zoq pq))))
 rcases hv with⟨i,rfl⟩ | ⟨z,rfl⟩ | rfl | ⟨b,rfl⟩ | ⟨i,z,rfl⟩ | ⟨i,j,z,rfl⟩
 · exact gen rfl
 · exact gen rfl
 · exact gen rfl
 · exact jv rfl (qj (qb (z2r (qo (e_a (a_c (e_v rfl) (a_c e_k a_n)) rfl))) (zw (zkb (e_a (a_c (e_v rfl) (a_c e_k a_n)) rfl) (zkb (e_a (a_c (e_v rfl) (a_c e_k a_n)) rfl) (e_2 (e_v rfl) (e_v rfl) (zoq pq)))))))
 · exact gen rfl
 · exact gen rfl
end Pg
namespace Pg
open PySem L2 F
noncomputable section
def zz5:C :=
 (qa (q9 1 (e2 jq (zm z8 (aC (eV 0) (aC (eK (.int 0)) aN))) (eK (.int 8)))) (qa (q9 2 (e2 jq (zm z8 (aC (eV 0) (aC (eK (.int 1)) aN))) (eK (.int 15)))) (qa (sIf (bE (e2 xy (e2 jq (zm z8 (aC (eV 0) (aC (eK (.int 2)) aN))) (eK (.int 8))) (eK (.int 3)))) (q9 2 (eK (.int 70))) jw) (qa (q9 3 (zm k9 (aC (eV 0) (aC (eV 1) (aC (eV 2) aN))))) (qa (q9 4 (zm kz (aC (eV 0) (aC (zou "Wood" (zv5 1 q0) aN) (aC (eV 3) aN))))) (qa (q9 5 (jc [1,0] (zv0 (eK (.int 8))) zed (zm je (aC (eV 1) (aC (zm z8 (aC (eV 2) (aC (e2 ql (eK (.int 180)) (eV 0)) aN))) aN))))) (qa (q9 5 (e2 ql (eV 5) (jc [] (zc7 (e2 ql (eSl (eV 3) pN (pE (eK (.int 3)))) (eSl (eV 3) (pE (e1 z1w (eK (.int 3)))) pN))) zed (e2s z9 (eV 0) (eK (.int 0)))))) (qa (zpt 6 (e2 ql (eV 5) (eSl (eV 5) pN (pE (eK (.int 2))))) (sIf (zel (bE (zm xu (aC (eV 4) (aC (eV 3) (aC (eV 6) (aC (eV 1) aN))))))) (qu (eK (.bl false))) jw)) (qa (q9 7 (zm yq (aC (eV 4) aN))) (qa (q9 8 (zm xj (aC (eV 4) aN))) (qa (sIf (bOr (zel (bE (eA zlx (aC (eV 7) (aC (eK (.ty "list")) aN))))) (bOr (zel (bE (eA zlx (aC (eV 8) (aC (eK (.ty "list")) aN))))) (bE (e2s zk6 (eV 7) (jc [] (zc7 (eV 3)) zed (e2s z9 (eV 0) (eK (.int 0)))))))) (qu (eK (.bl false))) jw) (qa (sIf (bE (e2 zut (eA zce (aC (eV 8) aN)) (eA zce (aC (eV 3) aN)))) (qu (eK (.bl false))) jw) (qa (zky 9 (eA zce (aC (eV 3) aN)) (sIf (zel (bE (zm j6 (aC (e2s z9 (eV 8) (eV 9)) (aC (e2s z9 (e2s z9 (eV 3) (eV 9)) (eK (.int 1))) aN))))) (qu (eK (.bl false))) jw)) (qa (zap (eV 7) (eK (.int 1))) (qa (zbf (zg4 (eV 8))) (qu (zpe (e2s zk8 (zm yq (aC (eV 4) aN)) (jc [] (zc7 (eV 3)) zed (e2s z9 (eV 0) (eK (.int 0))))) (zay xy xy (eA zce (aC (zm xj (aC (eV 4) aN)) aN)) (eA zce (aC (eV 3) aN)) (eA zce (aC (zm jt (aC (eV 4) aN)) aN))))))))))))))))))))
def g_law:G:=z5 10 1 zz5
end
end Pg
namespace Pg
open PySem L2 F Mt
variable {d d0 l r t x y:D}{ts us rt:List D}{h i j g rh:Nat}{n:Int}{S S0 S1:Sto}{ev:Ev}{T:D->Prop}{lt:D->D->Bool}{f:LT}{vs:List D}
def ofK(κ:Int)(x:D)(ts:List D):List D:=ts.filter fun z=>decide (cc κ (fs z)=cc κ x)
theorem hs_of{κ:Int}:hs (ltp κ) ts (.tup [x,.non])=true↔∃y∈ts,cc κ (fs y)=cc κ x:=by
 have e:∀y,alk (ltp κ) y (.tup [x,.non])↔cc κ (fs y)=cc κ (fs (.tup [x,.non])):=fun y=>alk_p;rw[hs_iff];constructor
 · rintro⟨y,hy,a⟩;have:=(e y).mp a;exact⟨y,hy,this⟩
 · rintro⟨y,hy,a⟩;exact⟨y,hy,(e y).mpr a⟩
theorem uni{κ:Int}(sa:Srt (ltp κ) ts)(hx:x∈ts)(hy:y∈ts)(e:cc κ (fs x)=cc κ (fs y)):x=y:=by
 have r:alk (ltp κ) x y:=alk_p.mpr e;obtain⟨i,hi,rfl⟩:=z5p hx;obtain⟨j,hj,rfl⟩:=z5p hy;have:=z6w.mp sa;rcases Nat.lt_trichotomy i j with h | h | h
 · have:=this i j hi hj h;rw[r.1]at this;cases this
 · subst h;rfl
 · have:=this j i hj hi h;rw[r.2]at this;cases this
def pT:B:=(bE (e2 xy (zm qi (aC (eV 1) (aC (e2s z9 (eV 0) (eK (.int 0))) aN))) (zm qi (aC (eV 1) (aC (eV 2) aN)))))
theorem z1t{κ:Int}(h0:0<=κ)(h1:κ<8)(ty:TP κ y)(tx:zad κ x):pT [some y,some (.int κ),some x] S=some (decide (cc κ (fs y)=cc κ x),S):=by obtain⟨a,v,rfl,ha,hv⟩:=ty;exact qo (e_2 (zj (a_c (e_v rfl) (a_c (qt (e_v rfl) e_k rfl) a_n)) (zdn h0 h1 ha)) (zj (a_c (e_v rfl) (a_c (e_v rfl) a_n)) (zdn h0 h1 tx)) (zso h0 h1 ha tx))
theorem zrs{κ:Int}(h0:0<=κ)(h1:κ<8)(s:Ste (TP κ) (ltp κ) d ts h)(hl:ts.length<=1000)(tx:zad κ x):xu [d,.lst ts,x,.int κ] (Z n)=some (.bl true,Z n):=by
 refine z2c fun cl=>?_;have flt:jc [3,2] (zc7 (eV 1)) pT (eV 0) [some d,some (.lst ts),some x,some (.int κ),some (.lam { lt_2 with cl:=cl }),none] (Z n)=some (.lst (ofK κ x ts),Z n):=zzy (e_v rfl) fun z hz=>z1t h0 h1 (s.al z hz) tx;have tst:∀(o:Option D),bE (e2 xy (eV 5) (zly aN)) [some d,some (.lst ts),some x,some (.int κ),some (.lam { lt_2 with cl:=cl }),some (.lst (ofK κ x ts))] (Z n)=some ((ofK κ x ts).isEmpty,Z n):=fun o=>qo (e_2 (e_v rfl) (zlk (ds:=[]) a_n (z5y _)) (zsx _));have tst:=tst none;cases g:hs (ltp κ) ts (.tup [x,.non]) with
 | false=>
   have e0:ofK κ x ts=[]:=z83.mpr fun y hy q=>by have:=hs_of.mpr ⟨y,hy,z7h q⟩;rw[g]at this;cases this
   rw[e0]at tst flt;have cr:=zk1 (n:=n) h0 h1 tx s hl g;exact jv rfl (zi (zq (zyi (y:="_law_asked") rfl rfl)) (zi (zq flt) (qj (qb tst (zw (e_2 (zo2 (a_c (e_v rfl) (a_c (e_v rfl) a_n)) rfl rfl cr rfl z0i) (zlk (a_c e_k (a_c e_k (a_c e_k a_n))) (z5l rfl)) rfl))))))
 | true=>
   obtain⟨y,hy,ey,cv⟩:=zhu (S:=Z n) h0 h1 tx s hl z0i rfl g;have tyv:Vl (sn y):=by obtain⟨a,v,rfl,ha,hv⟩:=s.al y hy;exact hv
   have my:y∈ofK κ x ts:=z9j.mpr ⟨hy,z5w ey⟩;obtain⟨m,e1⟩:∃m,ofK κ x ts=y::m:=by
     cases q:ofK κ x ts with
     |nil=>rw[q]at my;cases my
     | cons z m=>
       have hz:z∈ofK κ x ts:=by rw[q];exact z5c ..
       obtain⟨z1,z2⟩:=z9j.mp hz;rw[uni s.sr z1 hy ((z7h z2).trans ey.symm)];exact⟨m,rfl⟩
   rw[e1]at tst flt;have ix:∀S:Sto,z9 S y (.int 1)=some (sn y):=fun S=>by obtain⟨a,v,rfl,ha,hv⟩:=s.al y hy;rfl
   exact jv rfl (zi (zq (zyi (y:="_law_asked") rfl rfl)) (zi (zq flt) (zi (zo tst) (zw (zj (a_c (zo2 (a_c (e_v rfl) (a_c (e_v rfl) a_n)) rfl rfl cv (zsm tyv) z0i) (a_c (qt (qt (e_v rfl) e_k (zbm (xs:=y::m) (j:=0) (v:=y) rfl)) e_k (ix _)) a_n)) (zmx tyv))))))
def thE:E:=(zm je (aC (eV 1) (aC (zm z8 (aC (eV 2) (aC (e2 ql (eK (.int 180)) (eV 0)) aN))) aN)))
theorem zmj(ns:List Int)(hn:ns.length<=63){κ:Int}(h0:0<=κ)(h1:κ<8):∀(js:List D),(∀x∈js,∃i:Int,x=.int i/\0<=i/\i<10000)->∃l,Al (zad κ) l/\l.length=js.length/\∀S,zch zed thE [some (.int κ),some (.lst (ns.map D.int))] js S=some (l,S)
 | [],_=>⟨[],fun x hx=>(by cases hx),rfl,fun S=>rfl⟩
 | jj::js,hj=>by obtain⟨i,rfl,i0,i1⟩:=hj jj (z5c ..);obtain⟨c,c0,c1,hc⟩:=zac ns hn (q:=180+i) (by omega) (by omega);obtain⟨x,tx,cx⟩:=zja h0 h1 c c0 c1;obtain⟨l,al,ll,ih⟩:=zmj ns hn h0 h1 js fun x hx=>hj x (z40 _ hx);exact⟨x::l,fun z hz=>(z46.mp hz).elim (fun e=>e▸tx) (al z),by rw[List.length_cons,ll,List.length_cons],fun S=>zin (zj (a_c (e_v rfl) (a_c (zj (a_c (e_v rfl) (a_c (e_2 e_k (e_v rfl) (add_int _ _)) a_n)) (hc _)) a_n)) (cx _)) (ih S)⟩
def aB:C:=(sIf (zel (bE (zm xu (aC (eV 4) (aC (eV 3) (aC (eV 6) (aC (eV 1) aN))))))) (qu (eK (.bl false))) jw)
theorem zkl{κ:Int}(h0:0<=κ)(h1:κ<8)(s:Ste (TP κ) (ltp κ) d ts h)(hl:ts.length<=1000)(a0 a2 a5:D):∀(js:List D),Al (zad κ) js->∀o,∃o',zbb 6 aB js [some a0,some (.int κ),some a2,some (.lst ts),some d,some a5,o,none,none,none] (Z n)=some (.nx [some a0,some (.int κ),some a2,some (.lst ts),some d,some a5,o',none,none,none],Z n)
 | [],_,o=>⟨o,rfl⟩
 | x::js,al,o=>by obtain⟨o',ih⟩:=zkl h0 h1 s hl a0 a2 a5 js al.tail (some x);exact⟨o',zde (zo (ztc (qo (zj (a_c (e_v rfl) (a_c (e_v rfl) (a_c (e_v rfl) (a_c (e_v rfl) a_n)))) (zrs h0 h1 s hl al.head))))) ih⟩
theorem ix0{κ:Int}(h:TP κ x)(S:Sto):z9 S x (.int 0)=some (fs x):=by obtain⟨a,v,rfl,ha,hv⟩:=h;rfl
theorem ix1{κ:Int}(h:TP κ x)(S:Sto):z9 S x (.int 1)=some (sn x):=by obtain⟨a,v,rfl,ha,hv⟩:=h;rfl
theorem zev{κ:Int}(s:Ste (TP κ) (ltp κ) d ts h)(hl:ts.length<=1000)(hS:SB S):yq [d] S=some (.obj S.length,S++[.lst (ts.map fs)]) :=
 jv rfl (zw (zs5 (zj (a_c (e_v rfl) a_n) (zam s.mm (by omega) hS)) fun x hx=>qt (e_v rfl) e_k (ix0 (s.al x hx) _)))
theorem zci{κ:Int}(s:Ste (TP κ) (ltp κ) d ts h)(hl:ts.length<=1000)(hS:SB S):xj [d] S=some (.obj S.length,S++[.lst (ts.map sn)]) :=
 jv rfl (zw (zs5 (zj (a_c (e_v rfl) a_n) (zam s.mm (by omega) hS)) fun x hx=>qt (e_v rfl) e_k (ix1 (s.al x hx) _)))
theorem z0e{κ:Int}(al:Al (TP κ) ts):Al (zad κ) (ts.map fs):=fun x hx=>by obtain⟨y,hy,rfl⟩:=z68.mp hx;obtain⟨a,v,rfl,ha,hv⟩:=al y hy;exact ha
theorem zix{κ:Int}(q:Nat):∀{l:List D},Al (zad κ) l->bndL q l=true
 | [],_=>rfl
 | x::l,al=>by unfold bndL;rw[zix q al.tail,z8w];rcases zpl al.head with⟨i,rfl⟩ | ⟨z,rfl,_⟩<;>rfl
theorem zz7(q:Nat)(h:Vl x):bnd q x=true:=by rcases h with⟨i,rfl⟩ | ⟨z,rfl⟩ | rfl | ⟨b,rfl⟩ | ⟨i,z,rfl⟩ | ⟨i,j,z,rfl⟩<;>rfl
theorem zo7{κ:Int}(q:Nat):∀{l:List D},Al (TP κ) l->bndL q (l.map sn)=true
 | [],_=>rfl
 | x::l,al=>by rw[z5a];unfold bndL;rw[zo7 q al.tail,z8w];obtain⟨a,v,rfl,ha,hv⟩:=al.head;exact zz7 q hv
theorem z1m{κ:Int}{l:List D}(al:Al (zad κ) l):pl 150 (.lst l)=true:=z55.mpr fun x hx=>zne (by decide) (z1l (zpl (al x hx)))
theorem zzp(h1:zkv S x=some ts)(h2:zkv S y=some ts)(hb:bndL 0 ts=true)(hp:pl 150 (.lst ts)=true):zk8 S x y=some (.bl true):=by unfold zk8;rw[h1,h2];simp only[Option.bind_some,hb,and_self,z6s,zoq hp]
theorem zya(h1:zkv S x=some ts)(h2:zkv S y=some ts)(hb:bndL 0 ts=true)(hp:pl 150 (.lst ts)=true):zk6 S x y=some (.bl false):=by unfold zk6;rw[h1,h2];simp only[Option.bind_some,hb,and_self,z6s,zx8 hp]
def Zl(n:Int)(L:List (List D)):Sto:=Z n++L.map MO.lst
theorem zl2{L:List (List D)}(h:∀l∈L,∀q,bndL q l=true):SB (Zl n L):=zt9 fun m hm q=>by
 rcases z5k.mp hm with z | z
 · exact z_b m z q
 · obtain⟨l,hl,rfl⟩:=z68.mp z;exact h l hl q
def vB:C:=(sIf (zel (bE (zm j6 (aC (e2s z9 (eV 8) (eV 9)) (aC (e2s z9 (e2s z9 (eV 3) (eV 9)) (eK (.int 1))) aN))))) (qu (eK (.bl false))) jw)
theorem zr0{κ:Int}(al:Al (TP κ) ts)(a0 a1 a2 a4 a5 a6 a7:Option D){S:Sto}{j:Nat}(hj:S[j]? = some (.lst (ts.map sn))):∀(m lo:Nat),lo+m=ts.length->∀o,∃o',zbb 9 vB (q8 (lo:Int) m) [a0,a1,a2,some (.lst ts),a4,a5,a6,a7,some (.obj j),o] S=some (.nx [a0,a1,a2,some (.lst ts),a4,a5,a6,a7,some (.obj j),o'],S)
 |0,lo,_,o=>⟨o,rfl⟩
 | m+1,lo,h1,o=>by
   obtain⟨o',ih⟩:=zr0 al a0 a1 a2 a4 a5 a6 a7 hj m (lo+1) (by omega) (some (.int lo));have hlo:lo<ts.length:=by omega
   have tp:=al _ (z74 hlo);have hv:Vl (sn ts[lo]):=by obtain⟨a,v,e,ha,hv⟩:=tp;rw[e];exact hv
   have i1:z9 S (.obj j) (.int lo)=some (sn ts[lo]):=by show(match S[j]? with | some (.lst ds)=>atI ds lo | _=>none)=_;rw[hj];exact zbm (by rw[z54,z4x hlo];rfl)
   have i2:z9 S (.lst ts) (.int lo)=some ts[lo]:=zbm (z4x hlo);refine⟨o',?_⟩;rw[zcb,show((lo:Int)+1)=((lo+1:Nat):Int)from rfl];exact zde (zo (ztc (qo (zj (a_c (qt (e_v rfl) (e_v rfl) i1) (a_c (qt (qt (e_v rfl) (e_v rfl) i2) e_k (ix1 tp _)) a_n)) (zmx hv))))) ih
theorem zvq{q j:Nat}{us:List D}(he:ev[q]? = some (some (.obj j)))(hj:S[j]? = some (.lst us)):zg4 (eV q) ev S=some (.non,S.set j (.lst [])):=by simp only[zg4,e_v he,Option.bind_some,hj]
theorem zra{op op':D->D->Option D}{f g h:E}{x y z:D}{S2 S3:Sto}(h1:f ev S=some (x,S1))(h2:g ev S1=some (y,S2))(o1:op x y=some (.bl true))(h3:h ev S2=some (z,S3))(o2:op' y z=some d):zay op op' f g h ev S=some (d,S3):=by simp only[zay,h1,Option.bind_some,h2,o1,h3,o2,Option.map_some]
theorem law_ok:zth tabs g_law:=by
 intro ns hn;obtain⟨c0,_,_,hc0⟩:=zac ns hn (q:=0) (by decide) (by decide);obtain⟨c1,_,_,hc1⟩:=zac ns hn (q:=1) (by decide) (by decide);obtain⟨c2,_,_,hc2⟩:=zac ns hn (q:=2) (by decide) (by decide);have h0:=z6r c0 (show(8:Int)≠0 by decide);have h1:=z58 c0 (show(0:Int)<8 by decide);generalize hκ:c0%8=κ at *;obtain⟨m0,hm0,em0⟩:=zh9 c1 (c:=15) (by decide);obtain⟨m,hm,s3⟩:∃m:Nat,m<=70/\sIf (bE (e2 xy (e2 jq (zm z8 (aC (eV 0) (aC (eK (.int 2)) aN))) (eK (.int 8))) (eK (.int 3)))) (q9 2 (eK (.int 70))) jw [some (.lst (ns.map D.int)),some (.int κ),some (.int m0),none,none,none,none,none,none,none] [tK,tA,tP]=some (.nx [some (.lst (ns.map D.int)),some (.int κ),some (.int m),none,none,none,none,none,none,none],[tK,tA,tP]):=by
   by_cases q:c2%8=3
   · exact⟨70,by omega,qb (qo (e_2 (e_2 (zj (a_c (e_v rfl) (a_c e_k a_n)) (hc2 _)) e_k (yo (by decide))) e_k ((z0y _ _).trans (by rw[z5w q])))) (zq e_k)⟩
   · exact⟨m0,by omega,zo (qo (e_2 (e_2 (zj (a_c (e_v rfl) (a_c e_k a_n)) (hc2 _)) e_k (yo (by decide))) e_k ((z0y _ _).trans (by rw[z5m q]))))⟩
 have sb3:SB [tK,tA,tP]:=zt9 fun m hm q=>by
   rcases z46.mp hm with rfl | hm
   · rfl
   rcases z46.mp hm with rfl | hm
   · rfl
   rw[z43.mp hm];rfl
 obtain⟨ts,al,sr,tl,cs⟩:=zqh (S:=[tK,tA,tP]) ns hn h0 h1 (m:=m) (by omega) sb3 rfl rfl (by decide);obtain⟨d,h,n',mm,cd⟩:=zpm (n:=0) ns hn (ts:=ts) (fun x hx=>zwg (al x hx)) (by omega);have s:Ste (TP κ) (ltp κ) d ts h:=⟨mm,al,sr⟩
 obtain⟨l8,a8,ll8,c8⟩:=zmj ns hn h0 h1 (q8 0 8) (rng (by decide));rw[zh4]at ll8;have alC:Al (TP κ) (ts.take 3++zlm ts (some (-3)) none):=fun z hz=>(z5k.mp hz).elim (fun w=>al z (z5r w)) fun w=>al z (zrb w);have lc:(zlm ts (some (-3)) none).length<=ts.length:=zrc _ _;have alA:Al (zad κ) (l8++(ts.take 3++zlm ts (some (-3)) none).map fs):=fun z hz=>(z5k.mp hz).elim (a8 z) fun w=>z0e alC z w;generalize hA:l8++(ts.take 3++zlm ts (some (-3)) none).map fs=as at alA;have lA:as.length<=1000:=by rw[<-hA];simp only[z4t,z56,z49];omega
 have alB:Al (zad κ) (as++as.take 2):=fun z hz=>(z5k.mp hz).elim (alA z) fun w=>alA z (z5r w);obtain⟨o',lp⟩:=zkl (n:=n') h0 h1 s (by omega) (.lst (ns.map D.int)) (.int m) (.lst as) (as++as.take 2) alB none;have ak:=z0e al;have bk:∀q,bndL q (ts.map fs)=true:=fun q=>zix q ak;have bv:∀q,bndL q (ts.map sn)=true:=fun q=>zo7 q al;have pk:=z1m ak;have k1:=zev (S:=Zl n' []) s (by omega) (zl2 fun l hl=>by cases hl);have k2:=zci (S:=Zl n' [ts.map fs]) s (by omega) (zl2 fun l hl=>by rw[z43.mp hl];exact bk);obtain⟨o9,vl⟩:=zr0 (S:=Zl n' [ts.map fs,ts.map sn]) (j:=5) al (some (.lst (ns.map D.int))) (some (.int κ)) (some (.int m)) (some d) (some (.lst as)) o' (some (.obj 4)) rfl ts.length 0 (by omega) none;have b1:∀q,bndL q (ts.map fs++[.int 1])=true:=fun q=>zix (κ:=0) q (l:=ts.map fs++[.int 1]) |> fun _=>by
   have app:∀l:List D,bndL q (l++[.int 1])=bndL q l:=fun l=>by
     induction l with
     |nil=>rfl
     |cons x l ih=>rw[List.cons_append];unfold bndL;rw[ih]
   rw[app];exact bk q
 have k3:=zev (S:=Zl n' [ts.map fs++[.int 1],[]]) s (by omega) (zl2 fun l hl=>by
   rcases z46.mp hl with rfl | hl
   · exact b1
   · rw[z43.mp hl];exact fun q=>rfl)
 have k4:=zci (S:=Zl n' [ts.map fs++[.int 1],[],ts.map fs]) s (by omega) (zl2 fun l hl=>by
   rcases z46.mp hl with rfl | hl
   · exact b1
   rcases z46.mp hl with rfl | hl
   · exact fun q=>rfl
   · rw[z43.mp hl];exact bk)
 have k5:=zam (S:=Zl n' [ts.map fs++[.int 1],[],ts.map fs,ts.map sn]) s.mm (by omega) (zl2 fun l hl=>by
   rcases z46.mp hl with rfl | hl
   · exact b1
   rcases z46.mp hl with rfl | hl
   · exact fun q=>rfl
   rcases z46.mp hl with rfl | hl
   · exact bk
   · rw[z43.mp hl];exact bv)
 have cmp:∀{ev:Ev}{S:Sto},ev[3]? = some (some (.lst ts))->jc [] (zc7 (eV 3)) zed (e2s z9 (eV 0) (eK (.int 0))) ev S=some (.lst (ts.map fs),S):=fun h=>zs7 (e_v h) fun x hx=>qt (e_v rfl) e_k (ix0 (al x hx) _);have e5:e2 ql (eV 5) (jc [] (zc7 (e2 ql (eSl (eV 3) pN (pE (eK (.int 3)))) (eSl (eV 3) (pE (e1 z1w (eK (.int 3)))) pN))) zed (e2s z9 (eV 0) (eK (.int 0)))) [some (.lst (ns.map D.int)),some (.int κ),some (.int m),some (.lst ts),some d,some (.lst l8),none,none,none,none] (Z n')=some (.lst as,Z n') :=
   e_2 (e_v rfl) (zs7 (ts:=ts.take 3++zlm ts (some (-3)) none) (e_2 (zv3 (e_v rfl) p_n (p_e e_k) (zt6 3)) (zv3 (e_v rfl) (p_e (e_1 e_k rfl)) p_n rfl) (zea (by simp only[z49];omega))) fun x hx=>qt (e_v rfl) e_k (ix0 (alC x hx) _)) ((zea (by simp only[z4t,z56,z49];omega)).trans (by rw[hA]))
 have t1:bOr (zel (bE (eA zlx (aC (eV 7) (aC (eK (.ty "list")) aN))))) (bOr (zel (bE (eA zlx (aC (eV 8) (aC (eK (.ty "list")) aN))))) (bE (e2s zk6 (eV 7) (jc [] (zc7 (eV 3)) zed (e2s z9 (eV 0) (eK (.int 0))))))) [some (.lst (ns.map D.int)),some (.int κ),some (.int m),some (.lst ts),some d,some (.lst as),o',some (.obj 4),some (.obj 5),none] (Zl n' [ts.map fs,ts.map sn])=some (false,Zl n' [ts.map fs,ts.map sn]) :=
   zvt (ztc (qo (e_a (a_c (e_v rfl) (a_c e_k a_n)) rfl))) (zvt (ztc (qo (e_a (a_c (e_v rfl) (a_c e_k a_n)) rfl))) (qo (qt (e_v rfl) (cmp rfl) (zya (ts:=ts.map fs) rfl rfl (bk 0) pk))))
 have ln1:∀S:Sto,zce S [.lst ts]=some (.int ts.length):=fun S=>rfl;have t2:bE (e2 zut (eA zce (aC (eV 8) aN)) (eA zce (aC (eV 3) aN))) [some (.lst (ns.map D.int)),some (.int κ),some (.int m),some (.lst ts),some d,some (.lst as),o',some (.obj 4),some (.obj 5),none] (Zl n' [ts.map fs,ts.map sn])=some (false,Zl n' [ts.map fs,ts.map sn]) :=
   qo (e_2 (x:=.int ts.length) (e_a (a_c (e_v rfl) a_n) (by show some (D.int (ts.map sn).length)=_;rw[z56])) (e_a (a_c (e_v rfl) a_n) (ln1 _)) (zx8 rfl))
 have sa:zap (eV 7) (eK (.int 1)) [some (.lst (ns.map D.int)),some (.int κ),some (.int m),some (.lst ts),some d,some (.lst as),o',some (.obj 4),some (.obj 5),o9] (Zl n' [ts.map fs,ts.map sn])=some (.nx [some (.lst (ns.map D.int)),some (.int κ),some (.int m),some (.lst ts),some d,some (.lst as),o',some (.obj 4),some (.obj 5),o9],Zl n' [ts.map fs++[.int 1],ts.map sn]) :=
   zc6 (q:=7) (j:=4) (us:=ts.map fs) rfl rfl e_k (by rw[z56];omega)
 have sc:zbf (zg4 (eV 8)) [some (.lst (ns.map D.int)),some (.int κ),some (.int m),some (.lst ts),some d,some (.lst as),o',some (.obj 4),some (.obj 5),o9] (Zl n' [ts.map fs++[.int 1],ts.map sn])=some (.nx [some (.lst (ns.map D.int)),some (.int κ),some (.int m),some (.lst ts),some d,some (.lst as),o',some (.obj 4),some (.obj 5),o9],Zl n' [ts.map fs++[.int 1],[]]) :=
   zan (zvq (q:=8) (j:=5) (us:=ts.map sn) rfl rfl)
 have fin:zpe (e2s zk8 (zm yq (aC (eV 4) aN)) (jc [] (zc7 (eV 3)) zed (e2s z9 (eV 0) (eK (.int 0))))) (zay xy xy (eA zce (aC (zm xj (aC (eV 4) aN)) aN)) (eA zce (aC (eV 3) aN)) (eA zce (aC (zm jt (aC (eV 4) aN)) aN))) [some (.lst (ns.map D.int)),some (.int κ),some (.int m),some (.lst ts),some d,some (.lst as),o',some (.obj 4),some (.obj 5),o9] (Zl n' [ts.map fs++[.int 1],[]])=some (.bl true,Zl n' [ts.map fs++[.int 1],[],ts.map fs,ts.map sn]) :=
   zkb (qt (zj (a_c (e_v rfl) a_n) k3) (cmp rfl) (zzp (ts:=ts.map fs) rfl rfl (bk 0) pk)) (zra (x:=.int ts.length) (y:=.int ts.length) (e_a (a_c (zj (a_c (e_v rfl) a_n) k4) a_n) (by show some (D.int (ts.map sn).length)=_;rw[z56])) (e_a (a_c (e_v rfl) a_n) (ln1 _)) (zoq rfl) (e_a (a_c (zj (a_c (e_v rfl) a_n) k5) a_n) (ln1 _)) (zoq rfl))
 refine⟨Zl n' [ts.map fs++[.int 1],[],ts.map fs,ts.map sn],jv rfl (zi (zq (d:=.int κ) (e_2 (zj (a_c (e_v rfl) (a_c e_k a_n)) (hc0 _)) e_k ((yo (by decide)).trans (by rw[hκ])))) (zi (zq (e_2 (zj (a_c (e_v rfl) (a_c e_k a_n)) (hc1 _)) e_k em0)) (zi s3 (zi (zq (zj (a_c (e_v rfl) (a_c (e_v rfl) (a_c (e_v rfl) a_n))) cs)) (zi (zq (zj (a_c (e_v rfl) (a_c ztk (a_c (e_v rfl) a_n))) cd)) (zi (zq (zs6 (m:=8) (by decide) e_k (c8 _))) (zi (zq e5) (zi (ztt (b:=aB) (ds:=as++as.take 2) (e_2 (e_v rfl) (zv3 (e_v rfl) p_n (p_e e_k) (zt6 2)) (zea (by simp only[z49];omega))) lp) (zi (zq (zj (a_c (e_v rfl) a_n) k1)) (zi (zq (zj (a_c (e_v rfl) a_n) k2)) (zi (zo t1) (zi (zo t2) (zi (zhz (n:=(ts.length:Int)) (b:=vB) (e_a (a_c (e_v rfl) a_n) (ln1 _)) (by omega) (by omega) (by rw[Int.toNat_natCast];exact vl)) (zi sa (zi sc (zw fin))))))))))))))))⟩
end Pg
namespace Pg
open PySem L2 F PySem.Spec PyProof.Rows
variable {P:Program}{w:World}{K:zFr}{mg:zMg}{base:Heap}{f:Addr}{cdv:Value}{A:Around}{outer:List Env}{s:Shared}{H:Hp}{E:XK}
seal F.FE F.FB F.FW F.FA F.FS F.FSs F.FPt F.RE F.RS F.RSs F.RTs
def top(i:Nat):Stmt:=PySem.Challenge.pw_ownshelf_k23_values_of_keys.main.body.getD i (.Pass ⟨0,0,0,0⟩)
theorem _root_.L2.FnScope.auto7{N P:List Str}{sc:Scope}(h1:sc.kind=.function:=by rfl)(h2:sc.isCoroutine=false:=by rfl)(h3:sc.isGenerator=false:=by rfl)(h4:N.Nodup:=by decide +kernel)(h5:N.take P.length=P:=by rfl)(h6:∀x∈P,sc.names.lookup x=some .local\/sc.names.lookup x=some .cell:=by decide +kernel)(h7:∀y∈sc.names,y.2≠.free:=by decide +kernel):L2.FnScope N P sc:=⟨h1,h2,h3,h4,h5,h6,h7⟩
theorem _root_.L2.Room.rmd{j k:Nat}{A:Around}(r:Room k A)(h:j<=k:=by decide):Room j A:=r.mono h
abbrev s_Wood___init__:Stmt:=zfu (top 47) 0
abbrev s__law_key:Stmt:=top 76
abbrev s_check_place:Stmt:=top 49
abbrev s_size:Stmt:=top 14
abbrev s_seen:Stmt:=top 19
abbrev s_thing_at:Stmt:=top 56
abbrev s_at:Stmt:=top 55
abbrev s_by_key:Stmt:=top 69
abbrev s_is_alike_at:Stmt:=top 64
abbrev s_count_before:Stmt:=top 63
abbrev s_place_of:Stmt:=top 62
abbrev s_place_of_alike:Stmt:=top 65
abbrev s_sought:Stmt:=top 70
abbrev s_value_of:Stmt:=top 71
abbrev s__law_refusal:Stmt:=top 81
abbrev s__law_same:Stmt:=top 82
abbrev s__law_asked:Stmt:=top 83
abbrev s__law_cell:Stmt:=top 75
abbrev s__law_thing:Stmt:=top 77
abbrev s__law_value:Stmt:=top 78
abbrev s__law_pairs:Stmt:=top 79
abbrev s_Wood_numbered:Stmt:=zfu (top 47) 4
abbrev s_back:Stmt:=top 17
abbrev s_height:Stmt:=top 15
abbrev s_total:Stmt:=top 16
abbrev s_Wood_turned:Stmt:=zfu (top 47) 3
abbrev s_check_room:Stmt:=top 46
abbrev s_height_above:Stmt:=top 21
abbrev s_in_balance:Stmt:=top 22
abbrev s_size_above:Stmt:=top 20
abbrev s_backward_sum:Stmt:=top 25
abbrev s_onward_sum:Stmt:=top 24
abbrev s_sums_above:Stmt:=top 23
abbrev s_Wood_node:Stmt:=zfu (top 47) 2
abbrev s_built:Stmt:=top 52
abbrev s_make_of:Stmt:=top 51
abbrev s_check_stretch:Stmt:=top 50
abbrev s_parts:Stmt:=top 18
abbrev s_lifted_left:Stmt:=top 29
abbrev s_lifted_right:Stmt:=top 30
abbrev s_balanced:Stmt:=top 28
abbrev s_joined:Stmt:=top 27
abbrev s_cut_ahead:Stmt:=top 59
abbrev s_laid_together:Stmt:=top 58
abbrev s_taken_out:Stmt:=top 57
abbrev s_turned_part:Stmt:=top 60
abbrev s__law_table:Stmt:=top 80
abbrev s_gather:Stmt:=top 54
abbrev s_things_of:Stmt:=top 53
abbrev s_keys_of:Stmt:=top 72
abbrev s_values_of:Stmt:=top 73
abbrev s_law:Stmt:=top 84
structure TX (K:zFr) (mg:zMg) (base:Heap):Prop where
 udh:mg "ValueError"=none
 uf6:mg "abs"=none
 ub7:mg "bool"=none
 uaf:mg "isinstance"=none
 uaj:mg "len"=none
 ubi:mg "list"=none
 ugv:mg "max"=none
 uba:mg "range"=none
 ub8:mg "reversed"=none
 ufr:mg "sorted"=none
 ugw:mg "str"=none
 ucs:∃t,mg "ABOUT"=some (.int 1 t)
 uaa:∃t,mg "AHEAD"=some (.int 0 t)
 ugr:∃t,mg "BACK"=some (.int 8 t)
 uac:∃t,mg "BEHIND"=some (.int 2 t)
 ufk:∃t,mg "HEIGHT"=some (.int 6 t)
 ueu:∃t,mg "KEY"=some (.int 0 t)
 ubk:∃t,mg "LEFT"=some (.int 2 t)
 uae:∃t,mg "MIDDLE"=some (.int 1 t)
 uc6:∃t,mg "MOST_THINGS"=some (.int 2000 t)
 ubb:∃t,mg "RIGHT"=some (.int 4 t)
 ugp:∃t,mg "SIZE"=some (.int 5 t)
 ubc:∃t,mg "THING"=some (.int 3 t)
 uf7:∃t,mg "TOTAL"=some (.int 7 t)
 uax:∃t,mg "TURNED"=some (.int 3 t)
 uem:∃t,mg "VALUE"=some (.int 1 t)
 ubg:Fld K mg "Wood" "adding"
 uam:Fld K mg "Wood" "nodes_made"
 ufh:∃f,mg "Changed"=some (.ref f)
 ueg:∃f,mg "NoBalance"=some (.ref f)
 ufn:∃f,mg "NoMore"=some (.ref f)
 ufw:∃f,mg "NoName"=some (.ref f)
 ueq:∃f,mg "NoNumber"=some (.ref f)
 ue4:∃f,mg "NoPlace"=some (.ref f)
 ugg:∃f,mg "NoRow"=some (.ref f)
 ugd:∃f,mg "NoSum"=some (.ref f)
 ue2:∃f,mg "NoThing"=some (.ref f)
 uga:∃f,mg "NoWay"=some (.ref f)
 ue3:∃f,mg "TooMany"=some (.ref f)
 ufe:ExcCls K mg "NoThing"
 up:UpOk K mg up
 blt:zl1 base mg
 ua8:HasMk K mg "Wood" "Wood.__init__" s_Wood___init__ 1
 ueo:HasDef K mg "_law_key" s__law_key 0
 uc9:HasDef K mg "check_place" s_check_place 0
 ugl:HasDef K mg "size" s_size 0
 ugu:HasDef K mg "seen" s_seen 0
 ubz:HasDef K mg "thing_at" s_thing_at 0
 ugy:HasDef K mg "at" s_at 0
 ufv:HasDef K mg "by_key" s_by_key 0
 ude:HasDef K mg "is_alike_at" s_is_alike_at 0
 ubd:HasDef K mg "count_before" s_count_before 0
 uez:HasDef K mg "place_of" s_place_of 0
 ua5:HasDef K mg "place_of_alike" s_place_of_alike 0
 ufs:HasDef K mg "sought" s_sought 0
 ub4:HasDef K mg "value_of" s_value_of 0
 uco:HasDef K mg "_law_refusal" s__law_refusal 0
 uea:HasDef K mg "_law_same" s__law_same 0
 udz:HasDef K mg "_law_asked" s__law_asked 0
 ud9:HasDef K mg "_law_cell" s__law_cell 0
 udi:HasDef K mg "_law_thing" s__law_thing 0
 udn:HasDef K mg "_law_value" s__law_value 0
 udq:HasDef K mg "_law_pairs" s__law_pairs 0
 ubw:HasMth K mg "Wood" "numbered" "Wood.numbered" s_Wood_numbered
 ugs:HasDef K mg "back" s_back 0
 uf3:HasDef K mg "height" s_height 0
 ugh:HasDef K mg "total" s_total 0
 uda:HasMth K mg "Wood" "turned" "Wood.turned" s_Wood_turned
 ud6:HasDef K mg "check_room" s_check_room 0
 ucm:HasDef K mg "height_above" s_height_above 0
 ud3:HasDef K mg "in_balance" s_in_balance 0
 udm:HasDef K mg "size_above" s_size_above 0
 ucj:HasDef K mg "backward_sum" s_backward_sum 0
 udr:HasDef K mg "onward_sum" s_onward_sum 0
 udv:HasDef K mg "sums_above" s_sums_above 0
 uei:HasMth K mg "Wood" "node" "Wood.node" s_Wood_node
 uen:HasDef K mg "built" s_built 0
 ufd:HasDef K mg "make_of" s_make_of 0
 uca:HasDef K mg "check_stretch" s_check_stretch 0
 uf9:HasDef K mg "parts" s_parts 0
 ucu:HasDef K mg "lifted_left" s_lifted_left 0
 uce:HasDef K mg "lifted_right" s_lifted_right 0
 uer:HasDef K mg "balanced" s_balanced 0
 ud2:HasDef K mg "joined" s_joined 0
 ubo:HasDef K mg "cut_ahead" s_cut_ahead 0
 ub1:HasDef K mg "laid_together" s_laid_together 0
 ubp:HasDef K mg "taken_out" s_taken_out 0
 uc2:HasDef K mg "turned_part" s_turned_part 0
 udg:HasDef K mg "_law_table" s__law_table 0
 udy:HasDef K mg "gather" s_gather 0
 ueh:HasDef K mg "things_of" s_things_of 0
 ue7:HasDef K mg "keys_of" s_keys_of 0
 uec:HasDef K mg "values_of" s_values_of 0
 ugz:HasDef K mg "law" s_law 0
theorem z32:CloScope ["one", "other"] ["before"] lt_0.scope:=⟨rfl,rfl,rfl,by decide +kernel,(z5u.mpr ⟨rfl,(z5u.mpr ⟨rfl,(fun _ h=>nomatch h)⟩)⟩),(z5u.mpr ⟨rfl,(fun _ h=>nomatch h)⟩),by decide +kernel,by decide +kernel⟩
theorem z4j(T:TX K mg base)(hct1:∀t g,zg7 t=some g->CCal P w K mg base 2 t g){a c:Addr}{cl:zLA}{A:Around}{outer:List Env}{s:Shared}{H H1:Hp}{E:XK}(hr:Room 2 (A.deeper (PySem.W.envX lt_0.qual lt_0.scope s.heap.objs.size a (.ref c) cl))) :
   FE (cxC P w K mg base ["one", "other", "before"] lt_0.qual lt_0.scope a (.ref c) cl A outer s H H1 E).nox lt_0.body z2b:=by
 exact(zfz (fun _ _ h=>by cases h) (fun _ _ h=>by cases h) hct1 hr.rmd (zf 2) (zb (zu (zf 0) (zz T.ueu)) (zb (zu (zf 1) (zz T.ueu)) zd)))
theorem z4d(T:TX K mg base)(hct1:∀t g,zg7 t=some g->CCal P w K mg base 2 t g):CCal P w K mg base 3 lt_0 zyz:=CCal.of (t:=lt_0) (ps:=["one", "other"]) (k:=2) (f:=z2b) z32 rfl (fun _ _ _ _=>ls2 fun _ _=>rfl) (fun a c cl A outer s H H1 E hr=>z4j T hct1 hr)
theorem z31:CloScope ["_law_mark"] ["_law_kind"] lt_1.scope:=⟨rfl,rfl,rfl,by decide +kernel,(z5u.mpr ⟨rfl,(fun _ h=>nomatch h)⟩),(z5u.mpr ⟨rfl,(fun _ h=>nomatch h)⟩),by decide +kernel,by decide +kernel⟩
theorem z4i(T:TX K mg base)(uah:Cal P w K mg base 1 "_law_key" qi){a c:Addr}{cl:zLA}{A:Around}{outer:List Env}{s:Shared}{H H1:Hp}{E:XK}(hr:Room 1 (A.deeper (PySem.W.envX lt_1.qual lt_1.scope s.heap.objs.size a (.ref c) cl))) :
   FE (cxC P w K mg base ["_law_mark", "_law_kind"] lt_1.qual lt_1.scope a (.ref c) cl A outer s H H1 E).nox lt_1.body z0v:=by
 exact(zg uah hr.rmd (zb (zf 1) (zb (zf 0) zd)))
theorem z3d(T:TX K mg base)(uah:Cal P w K mg base 1 "_law_key" qi):CCal P w K mg base 2 lt_1 zyy:=CCal.of (t:=lt_1) (ps:=["_law_mark"]) (k:=1) (f:=z0v) z31 rfl (fun _ _ _ _=>ls1 fun _=>rfl) (fun a c cl A outer s H H1 E hr=>z4i T uah hr)
theorem z30:CloScope ["_law_one", "_law_other"] ["_law_kind"] lt_2.scope:=⟨rfl,rfl,rfl,by decide +kernel,(z5u.mpr ⟨rfl,(z5u.mpr ⟨rfl,(fun _ h=>nomatch h)⟩)⟩),(z5u.mpr ⟨rfl,(fun _ h=>nomatch h)⟩),by decide +kernel,by decide +kernel⟩
theorem z4h(T:TX K mg base)(uah:Cal P w K mg base 1 "_law_key" qi){a c:Addr}{cl:zLA}{A:Around}{outer:List Env}{s:Shared}{H H1:Hp}{E:XK}(hr:Room 1 (A.deeper (PySem.W.envX lt_2.qual lt_2.scope s.heap.objs.size a (.ref c) cl))) :
   FE (cxC P w K mg base ["_law_one", "_law_other", "_law_kind"] lt_2.qual lt_2.scope a (.ref c) cl A outer s H H1 E).nox lt_2.body z0u:=by
 exact(zzd hr (zg uah hr.rmd (zb (zf 2) (zb (zf 0) zd))) (zg uah hr.rmd (zb (zf 2) (zb (zf 1) zd))))
theorem z4c(T:TX K mg base)(uah:Cal P w K mg base 1 "_law_key" qi):CCal P w K mg base 2 lt_2 z0s:=CCal.of (t:=lt_2) (ps:=["_law_one", "_law_other"]) (k:=1) (f:=z0u) z30 rfl (fun _ _ _ _=>ls2 fun _ _=>rfl) (fun a c cl A outer s H H1 E hr=>z4h T uah hr)
theorem sc_Wood___init__:FnScope ["self", "add"] ["self", "add"] (zh s_Wood___init__):=.auto7
theorem zaz(T:TX K mg base)(hr:Room 0 (A.deeper (envOfC "Wood.__init__" (zh s_Wood___init__) s.heap.objs.size f cdv))) :
   FSs (zbp CX0 P w K mg base ["self", "add"] "Wood.__init__" (zh s_Wood___init__) f cdv A outer s H E).nox (jb s_Wood___init__) ko:=by
 have nd:=sc_Wood___init__.nd;exact(ze (zn8 T.ubg (zf 0) (zf 1)) (zk (zn8 T.uam (zf 0) zn)))
theorem zcq(T:TX K mg base):Mak P w K mg base 1 "Wood" q0:=T.ua8.mk1 sc_Wood___init__ (fun _ _ _ _ _ _ _=>ls2 fun _ _=>⟨_,rfl,rfl⟩) (fun f cdv A outer s H E hr=>zaz T  hr)
theorem zcr(T:TX K mg base):Mak P w K mg base 1 "Wood" (zv5 1 q0):=T.ua8.mk1d sc_Wood___init__ rfl (fun _ _ _ _ _ _ _=>ls1 fun _=>⟨_,rfl,rfl⟩) (fun f cdv A outer s H E hr=>zaz T  hr)
theorem sc__law_key:FnScope ["_law_kind", "_law_thing_here"] ["_law_kind", "_law_thing_here"] (zh s__law_key):=.auto7
theorem sc_check_place:FnScope ["place", "end"] ["place", "end"] (zh s_check_place):=.auto7
theorem sc_size:FnScope ["make"] ["make"] (zh s_size):=.auto7
theorem sc_seen:FnScope ["make", "turned"] ["make", "turned"] (zh s_seen):=.auto7
theorem sc_thing_at:FnScope ["make", "turned", "place", "row", "middle"] ["make", "turned", "place"] (zh s_thing_at):=.auto7
theorem sc_at:FnScope ["make", "place"] ["make", "place"] (zh s_at):=.auto7
theorem zmw:FnScope ["before"] ["before"] (zh s_by_key):=.auto7
theorem znu(T:TX K mg base):Cal P w K mg base 2 "by_key" xc:=T.ufv.calR zmw (fun _ _ _ _ _ _=>ls1 fun _=>rfl) rfl (fun f cdv hco A outer s H E=>⟨_,(CapsOk.mk rfl rfl (z5u.mpr ⟨rfl,(fun _ h=>nomatch h)⟩) (by decide +kernel) rfl (z5u.mpr ⟨rfl,(fun _ h=>nomatch h)⟩) (fun _ _=>rfl)),zsi 0 hco T.blt rfl⟩)
theorem sc_is_alike_at:FnScope ["make", "place", "thing", "before"] ["make", "place", "thing", "before"] (zh s_is_alike_at):=.auto7
theorem sc_count_before:FnScope ["make", "turned", "thing", "before", "row"] ["make", "turned", "thing", "before"] (zh s_count_before):=.auto7
theorem sc_place_of:FnScope ["make", "thing", "before"] ["make", "thing", "before"] (zh s_place_of):=.auto7
theorem sc_place_of_alike:FnScope ["make", "thing", "before", "place"] ["make", "thing", "before"] (zh s_place_of_alike):=.auto7
theorem sc_sought:FnScope ["key"] ["key"] (zh s_sought):=.auto7
theorem sc_value_of:FnScope ["make", "key", "before"] ["make", "key", "before"] (zh s_value_of):=.auto7
theorem sc__law_refusal:FnScope ["_law_make", "_law_mark", "_law_before", "_law_heard", "e", "_law_others"] ["_law_make", "_law_mark", "_law_before"] (zh s__law_refusal):=.auto7
theorem sc__law_same:FnScope ["_law_found", "_law_due"] ["_law_found", "_law_due"] (zh s__law_same):=.auto7
theorem sc__law_asked:FnScope ["_law_make", "_law_pairs_here", "_law_mark", "_law_kind", "_law_before", "_law_there"] ["_law_make", "_law_pairs_here", "_law_mark", "_law_kind"] (zh s__law_asked):=.auto7
theorem sc__law_cell:FnScope ["_law_script", "_law_k", "_law_cell_here"] ["_law_script", "_law_k"] (zh s__law_cell):=.auto7
theorem sc__law_thing:FnScope ["_law_kind", "_law_cell_here", "_law_text", "_law_k"] ["_law_kind", "_law_cell_here"] (zh s__law_thing):=.auto7
theorem sc__law_value:FnScope ["_law_cell_here", "_law_some"] ["_law_cell_here"] (zh s__law_value):=.auto7
theorem sc__law_pairs:FnScope ["_law_script", "_law_kind", "_law_many", "_law_keys", "_law_k", "_law_mark"] ["_law_script", "_law_kind", "_law_many"] (zh s__law_pairs):=.auto7
theorem sc_Wood_numbered:FnScope ["self", "rest", "number"] ["self", "rest"] (zh s_Wood_numbered):=.auto7
theorem sc_back:FnScope ["make"] ["make"] (zh s_back):=.auto7
theorem sc_height:FnScope ["make"] ["make"] (zh s_height):=.auto7
theorem sc_total:FnScope ["make"] ["make"] (zh s_total):=.auto7
theorem sc_Wood_turned:FnScope ["self", "make", "row"] ["self", "make"] (zh s_Wood_turned):=.auto7
theorem sc_check_room:FnScope ["things"] ["things"] (zh s_check_room):=.auto7
theorem sc_height_above:FnScope ["left", "right"] ["left", "right"] (zh s_height_above):=.auto7
theorem sc_in_balance:FnScope ["left", "right"] ["left", "right"] (zh s_in_balance):=.auto7
theorem sc_size_above:FnScope ["left", "right"] ["left", "right"] (zh s_size_above):=.auto7
theorem sc_backward_sum:FnScope ["add", "left", "thing", "right", "result"] ["add", "left", "thing", "right"] (zh s_backward_sum):=.auto7
theorem sc_onward_sum:FnScope ["add", "left", "thing", "right", "result"] ["add", "left", "thing", "right"] (zh s_onward_sum):=.auto7
theorem sc_sums_above:FnScope ["add", "left", "thing", "right"] ["add", "left", "thing", "right"] (zh s_sums_above):=.auto7
theorem sc_Wood_node:FnScope ["self", "left", "thing", "right", "things", "measures", "sums"] ["self", "left", "thing", "right"] (zh s_Wood_node):=.auto7
theorem sc_built:FnScope ["wood", "things", "start", "end", "middle", "left", "right"] ["wood", "things", "start", "end"] (zh s_built):=.auto7
theorem sc_make_of:FnScope ["wood", "things"] ["wood", "things"] (zh s_make_of):=.auto7
theorem sc_check_stretch:FnScope ["make", "start", "end"] ["make", "start", "end"] (zh s_check_stretch):=.auto7
theorem sc_parts:FnScope ["wood", "make", "ahead", "behind"] ["wood", "make"] (zh s_parts):=.auto7
theorem sc_lifted_left:FnScope ["wood", "left", "thing", "right", "outer", "inner", "ahead", "behind"] ["wood", "left", "thing", "right"] (zh s_lifted_left):=.auto7
theorem sc_lifted_right:FnScope ["wood", "left", "thing", "right", "outer", "inner", "ahead", "behind"] ["wood", "left", "thing", "right"] (zh s_lifted_right):=.auto7
theorem sc_balanced:FnScope ["wood", "left", "thing", "right"] ["wood", "left", "thing", "right"] (zh s_balanced):=.auto7
theorem sc_joined:FnScope ["wood", "left", "thing", "right", "row"] ["wood", "left", "thing", "right"] (zh s_joined):=.auto7
theorem sc_cut_ahead:FnScope ["wood", "make", "place", "row", "middle", "halves"] ["wood", "make", "place"] (zh s_cut_ahead):=.auto7
theorem sc_laid_together:FnScope ["wood", "one", "other"] ["wood", "one", "other"] (zh s_laid_together):=.auto7
theorem zd1(T:TX K mg base)(uav:Cal P w K mg base (7+40) "joined" (x4 40))(ual:Cal P w K mg base (2+40) "thing_at" (j7 40)){self:G}{n:Nat}(hself:Cal P w K mg base (48+2*n) "taken_out" self)(hr0:Room (48+2*n) (A.deeper (envOfC "laid_together" (zh s_laid_together) s.heap.objs.size f cdv))) :
   FSs (zbp CX0 P w K mg base ["wood", "one", "other"] "laid_together" (zh s_laid_together) f cdv A outer s H E).nox (jb s_laid_together) (za1 self):=by
 have nd:=sc_laid_together.nd;have hr:=hr0.mono (z5d 48 (2*n));exact(ze (qq (zeg (zf 1) jp) (zk (zp (zf 2))) zt) (ze (qq (zeg (zf 2) jp) (zk (zp (zf 1))) zt) (zk (zp (zg uav hr.rmd (zb (zf 0) (zb (zf 1) (zb (zg ual hr.rmd (zb (zf 2) (zb zbi (zb zn zd)))) (zb (zg hself hr0 (zb (zf 0) (zb (zf 2) (zb zn zd)))) zd)))))))))
theorem zae(T:TX K mg base)(uav:Cal P w K mg base (7+40) "joined" (x4 40))(ual:Cal P w K mg base (2+40) "thing_at" (j7 40)){self:G}{n:Nat}(hself:Cal P w K mg base (48+2*n) "taken_out" self):Cal P w K mg base (48+2*n+1) "laid_together" (jm self):=T.ub1.cal sc_laid_together (fun _ _ _ _ _ _=>ls3 fun _ _ _=>rfl) (fun f cdv A outer s H E hr=>zd1 T uav ual hself hr)
theorem sc_taken_out:FnScope ["wood", "make", "place", "row", "middle"] ["wood", "make", "place"] (zh s_taken_out):=.auto7
theorem zim(T:TX K mg base)(uat:Cal P w K mg base 6 "balanced" j9)(ubm:Cal P w K mg base 3 "parts" xa)(ucb:Cal P w K mg base 1 "size" xx){self aux:G}{n:Nat}(hself:Cal P w K mg base (48+2*n) "taken_out" self)(haux:Cal P w K mg base (48+2*n+1) "laid_together" aux)(hr0:Room (48+2*n+1) (A.deeper (envOfC "taken_out" (zh s_taken_out) s.heap.objs.size f cdv))) :
   FSs (zbp CX0 P w K mg base ["wood", "make", "place", "row", "middle"] "taken_out" (zh s_taken_out) f cdv A outer s H E).nox (jb s_taken_out) (zd6 self aux):=by
 have nd:=sc_taken_out.nd;have hr1:=hr0.mono (z97 (48+2*n));have hr:=hr1.mono (z5d 48 (2*n));exact(ze (zx 3 (zg ubm hr.rmd (zb (zf 0) (zb (zf 1) zd))) nd) (ze (zx 4 (zg ucb hr.rmd (zb (zu (zf 3) (zz T.uaa)) zd)) nd) (ze (qq (zq6 (zf 2) (zf 4)) (zk (zp (zg uat hr.rmd (zb (zf 0) (zb (zg hself hr1 (zb (zf 0) (zb (zu (zf 3) (zz T.uaa)) (zb (zf 2) zd)))) (zb (zu (zf 3) (zz T.uae)) (zb (zu (zf 3) (zz T.uac)) zd))))))) zt) (ze (qq (zlj (zf 2) (zf 4)) (zk (zp (zg uat hr.rmd (zb (zf 0) (zb (zu (zf 3) (zz T.uaa)) (zb (zu (zf 3) (zz T.uae)) (zb (zg hself hr1 (zb (zf 0) (zb (zu (zf 3) (zz T.uac)) (zb (zaf (zaf (zf 2) (zf 4)) zn) zd)))) zd))))))) zt) (zk (zp (zg haux hr0 (zb (zf 0) (zb (zu (zf 3) (zz T.uaa)) (zb (zu (zf 3) (zz T.uac)) zd))))))))))
theorem zcl(T:TX K mg base)(uat:Cal P w K mg base 6 "balanced" j9)(ubm:Cal P w K mg base 3 "parts" xa)(ucb:Cal P w K mg base 1 "size" xx)(uav:Cal P w K mg base (7+40) "joined" (x4 40))(ual:Cal P w K mg base (2+40) "thing_at" (j7 40)):∀n:Nat,Cal P w K mg base (48+2*n) "taken_out" (j5 n)
 |0=>T.ubp.none0 (ps:=["wood", "make", "place"]) (fun _ _ _ _ _ _=>ls3 fun _ _ _=>rfl)
 | n+1=>by have ih:=zcl T uat ubm ucb uav ual n;exact(show Cal P w K mg base ((48+2*n+1)+1) "taken_out" (j5 (n+1))from T.ubp.cal sc_taken_out (fun _ _ _ _ _ _=>ls3 fun _ _ _=>rfl) (fun f cdv A outer s H E hr=>zim T uat ubm ucb ih (zae T uav ual ih) hr))
theorem sc_turned_part:FnScope ["wood", "make", "start", "end", "behind", "ahead", "begin"] ["wood", "make", "start", "end"] (zh s_turned_part):=.auto7
theorem sc__law_table:FnScope ["_law_script", "_law_wood", "_law_pairs_here", "_law_way", "_law_start", "_law_end", "_law_amid"] ["_law_script", "_law_wood", "_law_pairs_here"] (zh s__law_table):=.auto7
theorem sc_gather:FnScope ["make", "turned", "found", "row"] ["make", "turned", "found"] (zh s_gather):=.auto7
theorem sc_things_of:FnScope ["make", "found"] ["make"] (zh s_things_of):=.auto7
theorem sc_keys_of:FnScope ["make"] ["make"] (zh s_keys_of):=.auto7
theorem sc_values_of:FnScope ["make"] ["make"] (zh s_values_of):=.auto7
theorem sc_law:FnScope ["_law_script", "_law_kind", "_law_many", "_law_pairs_here", "_law_make", "_law_asked_here", "_law_mark", "_law_keys", "_law_found", "_law_k"] ["_law_script"] (zh s_law):=.auto7
structure CX_law (P:Program) (w:World) (K:zFr) (mg:zMg) (base:Heap):Prop where
 mk ::
 uan:Mak P w K mg base 1 "Wood" (zv5 1 q0)
 ua3:Cal P w K mg base 49 "_law_asked" xu
 uad:Cal P w K mg base 1 "_law_cell" z8
 ua1:Cal P w K mg base 5 "_law_pairs" k9
 ua0:Cal P w K mg base 1 "_law_same" j6
 ua4:Cal P w K mg base 131 "_law_table" kz
 uas:Cal P w K mg base 1 "_law_thing" je
 ua6:Cal P w K mg base 44 "keys_of" yq
 uao:Cal P w K mg base 43 "things_of" jt
 uaz:Cal P w K mg base 44 "values_of" xj
theorem z2o(T:TX K mg base)(C:CX_law P w K mg base)(hr:Room 131 (A.deeper (envOfC "law" (zh s_law) s.heap.objs.size f cdv))) :
   FSs (zbp CX0 P w K mg base ["_law_script", "_law_kind", "_law_many", "_law_pairs_here", "_law_make", "_law_asked_here", "_law_mark", "_law_keys", "_law_found", "_law_k"] "law" (zh s_law) f cdv A outer s H E).nox (jb s_law) zz5:=by
 have nd:=sc_law.nd;exact(ze (zx 1 (jx (zg C.uad hr.rmd (zb (zf 0) (zb zn zd))) zn) nd) (ze (zx 2 (jx (zg C.uad hr.rmd (zb (zf 0) (zb zn zd))) zn) nd) (ze (qq (zai hr (jx (zg C.uad hr.rmd (zb (zf 0) (zb zn zd))) zn) zn) (zk (zx 2 zn nd)) zt) (ze (zx 3 (zg C.ua1 hr.rmd (zb (zf 0) (zb (zf 1) (zb (zf 2) zd)))) nd) (ze (zx 4 (zg C.ua4 hr.rmd (zb (zf 0) (zb (zq1 C.uan hr.rmd) (zb (zf 3) zd)))) nd) (ze (by exact zy7 5 (xg (x:="_law_k") (N':=["_law_kind", "_law_script"]) (fr:=[1,0]) (by decide +kernel) rfl rfl rfl rfl rfl) (zwo T.uba zn) (fun _ _ _ _=>.nil) (fun _ _ _ _=>(zg C.uas hr.rmd (zb (zf 1) (zb (zg C.uad hr.rmd (zb (zf 2) (zb (qy zn (zf 0)) zd))) zd)))) nd) (ze (zx 5 (qy (zf 5) (by exact zoj (xg (x:="_law_pair") (N':=[]) (fr:=[]) (by decide +kernel) rfl rfl rfl rfl rfl) (zh0 (qy (za8 (zf 3) zcf (zax zn)) (za8 (zf 3) (zax (zzb zn)) zcf))) (fun _ _ _ _=>.nil) (fun _ _ _ _=>(zu (zf 0) zn)))) nd) (ze (zve 6 nd (qy (zf 5) (za8 (zf 5) zcf (zax zn))) (zk (qq (zbd (yr (zg C.ua3 hr.rmd (zb (zf 4) (zb (zf 3) (zb (zf 6) (zb (zf 1) zd))))))) (zk (zp zbi)) zt)) z9q) (ze (zx 7 (zg C.ua6 hr.rmd (zb (zf 4) zd)) nd) (ze (zx 8 (zg C.uaz hr.rmd (zb (zf 4) zd)) nd) (ze (qq (z2i (zvb (zbd (yr (ze1 T.uaf (zb (zf 7) (zb (zd0 "list" T.ubi F.boot_list) zd))))) (zvb (zbd (yr (ze1 T.uaf (zb (zf 8) (zb (zd0 "list" T.ubi F.boot_list) zd))))) (zsr (zzk hr (zf 7) (by exact zoj (xg (x:="_law_pair") (N':=[]) (fr:=[]) (by decide +kernel) rfl rfl rfl rfl rfl) (zh0 (zf 3)) (fun _ _ _ _=>.nil) (fun _ _ _ _=>(zu (zf 0) zn)))))))) (zk (zp zbi)) zt) (ze (qq (z2j hr (km T.uaj (zb (zf 8) zd)) (km T.uaj (zb (zf 3) zd))) (zk (zp zbi)) zt) (ze (zii 9 nd T.uba (km T.uaj (zb (zf 3) zd)) (zk (qq (zbd (yr (zg C.ua0 hr.rmd (zb (zu (zf 8) (zf 9)) (zb (zu (zu (zf 3) (zf 9)) zn) zd))))) (zk (zp zbi)) zt)) z9q) (ze (zdx (zf 7) zn) (ze (zaa (zq3 (zf 8))) (zk (zp (zj7 (zzf hr (zg C.ua6 hr.rmd (zb (zf 4) zd)) (by exact zoj (xg (x:="_law_pair") (N':=[]) (fr:=[]) (by decide +kernel) rfl rfl rfl rfl rfl) (zh0 (zf 3)) (fun _ _ _ _=>.nil) (fun _ _ _ _=>(zu (zf 0) zn)))) (zog (zvi hr (km T.uaj (zb (zg C.uaz hr.rmd (zb (zf 4) zd)) zd)) (km T.uaj (zb (zf 3) zd)) (km T.uaj (zb (zg C.uao hr.rmd (zb (zf 4) zd)) zd))))))))))))))))))))))
theorem law_fn{P:Program}{w:World}{K:zFr}{mg:zMg}(T0:HasDef K mg "law" s_law 0)(C:∀base,zl1 base mg->TX K mg base/\CX_law P w K mg base):∃fa fd,mg "law"=some (.ref fa)/\(∀(s:Shared) (v:Value),BindsTo s fd ⟨[v],[]⟩ [("_law_script",v)])/\∀base,zl1 base mg->FnOk P w K mg base CX0 132 fa fd ["_law_script"] (spG K mg g_law):=by obtain⟨f,fd,dV,F,hm,rfl⟩:=T0.ex;have B:=F.binds0 (ps:=["_law_script"]) (fun _ _ _ _ _ _=>ls1 fun _=>rfl);refine⟨f,fd,hm,?_,fun base hB=>F.ok sc_law fun cdv A outer s H E hr=>z2o (C base hB).1 (C base hB).2 hr⟩;obtain⟨oc,od,kV,doc,pm,an,cdv,ct,osl,rfl,lk,hcd⟩:=F.ex;exact fun s v=>.of_eq rfl
theorem law_all{P:Program}{w:World}{K:zFr}{mg:zMg}(T:∀base,zl1 base mg->TX K mg base)(T0:HasDef K mg "law" s_law 0):∃fa fd,mg "law"=some (.ref fa)/\(∀(s:Shared) (v:Value),BindsTo s fd ⟨[v],[]⟩ [("_law_script",v)])/\∀base,zl1 base mg->FnOk P w K mg base CX0 132 fa fd ["_law_script"] (spG K mg g_law):=by
 refine law_fn T0 fun base hB=>?_;have T:=T base hB;have uf5:=zcq (P:=P) (w:=w) (base:=base) T ;have uan:=zcr (P:=P) (w:=w) (base:=base) T ;have uai:Cal P w K mg base 1 "_law_key" qi:=(T.ueo.cal sc__law_key (fun _ _ _ _ _ _=>ls2 fun _ _=>rfl) (fun f cdv A outer s H E hr=>by as_aux_lemma=>
   have nd:=sc__law_key.nd;exact(ze (qq (zai hr (zf 0) zn) (zk (zp (zaf zn (zf 1)))) zt) (ze (qq (zai hr (zf 0) zn) (zk (zp (jn (zb (jx (zf 1) zn) (zb (zf 1) zd))))) zt) (ze (qq (zai hr (zf 0) zn) (zk (zp (ze2 (zf 1) zn))) zt) (ze (qq (zai hr (zf 0) zn) (zk (zp (zsv T.uf6 (zb (zf 1) zd)))) zt) (ze (qq (zai hr (zf 0) zn) (zk (zp (jn (zb (km T.uaj (zb (zf 1) zd)) (zb (zf 1) zd))))) zt) (ze (qq (zai hr (zf 0) zn) (zk (zp (zof (zf 1) zcf (zax zn)))) zt) (zk (zp (zf 1)))))))))))
 have uc8:Cal P w K mg base 1 "check_place" y9:=(T.uc9.cal sc_check_place (fun _ _ _ _ _ _=>ls2 fun _ _=>rfl) (fun f cdv A outer s H E hr=>by as_aux_lemma=>
   have nd:=sc_check_place.nd;exact(zk (qq (zbd (zvk zn (zf 0) (zf 1))) (zk zbx) zt))))
 have uak:Cal P w K mg base 1 "size" xx:=(T.ugl.cal sc_size (fun _ _ _ _ _ _=>ls1 fun _=>rfl) (fun f cdv A outer s H E hr=>by as_aux_lemma=>
   have nd:=sc_size.nd;exact(ze (qq (zeg (zf 0) jp) (zk (zp zn)) zt) (zk (zp (zu (zf 0) (zz T.ugp)))))))
 have ud1:Cal P w K mg base 1 "seen" zg1:=(T.ugu.cal sc_seen (fun _ _ _ _ _ _=>ls2 fun _ _=>rfl) (fun f cdv A outer s H E hr=>by as_aux_lemma=>
   have nd:=sc_seen.nd;exact(ze (qq (zai hr (zu (zf 0) (zz T.ucs)) (zf 1)) (zk (zp (jn (zb (zu (zf 0) (zz T.ubk)) (zb (zu (zf 0) (zz T.ubc)) (zb (zu (zf 0) (zz T.ubb)) (zb zbi zd))))))) zt) (zk (zp (jn (zb (zu (zf 0) (zz T.ubb)) (zb (zu (zf 0) (zz T.ubc)) (zb (zu (zf 0) (zz T.ubk)) (zb zbi zd))))))))))
 have uar:∀n:Nat,Cal P w K mg base (2+n) "thing_at" (j7 n):=fun n=>by
   induction n with
   |zero=>exact T.ubz.none0 (ps:=["make", "turned", "place"]) (fun _ _ _ _ _ _=>ls3 fun _ _ _=>rfl)
   | succ n hself=>exact T.ubz.cal sc_thing_at (fun _ _ _ _ _ _=>ls3 fun _ _ _=>rfl) (fun f cdv A outer s H E hr0=>by as_aux_lemma=>
     have nd:=sc_thing_at.nd;have hr:=hr0.mono (z5d 2 n);exact(ze (zx 3 (zg ud1 hr.rmd (zb (zf 0) (zb (zf 1) zd))) nd) (ze (zx 4 (zg uak hr.rmd (zb (zu (zf 3) (zz T.uaa)) zd)) nd) (ze (qq (zq6 (zf 2) (zf 4)) (zk (zp (zg hself hr0 (zb (zu (zf 3) (zz T.uaa)) (zb (zu (zf 3) (zz T.uax)) (zb (zf 2) zd)))))) zt) (ze (qq (zlj (zf 2) (zf 4)) (zk (zp (zg hself hr0 (zb (zu (zf 3) (zz T.uac)) (zb (zu (zf 3) (zz T.uax)) (zb (zaf (zaf (zf 2) (zf 4)) zn) zd)))))) zt) (zk (zp (zu (zf 3) (zz T.uae)))))))))
 have uar:=uar 40;have ufm:Cal P w K mg base 43 "at" zu9:=(T.ugy.cal sc_at (fun _ _ _ _ _ _=>ls2 fun _ _=>rfl) (fun f cdv A outer s H E hr=>by as_aux_lemma=>
   have nd:=sc_at.nd;exact(ze (zaa (zg uc8 hr.rmd (zb (zf 1) (zb (zg uak hr.rmd (zb (zf 0) zd)) zd)))) (zk (zp (zg uar hr.rmd (zb (zf 0) (zb zbi (zb (zf 1) zd)))))))))
 have udw:=znu (P:=P) (w:=w) (base:=base) T ;have hlt:∀t g,zjw t=some g->LCal P w K mg base 1 t g:=by intro t g e;unfold zjw at e;cases e
 have hft:∀x g,ft x=some g->Cal P w K mg base 1 x g:=by intro x g e;unfold ft at e;cases e
 have hct1:∀t g,zg7 t=some g->CCal P w K mg base 2 t g:=by
   intro t g e;unfold zg7 at e;split at e
   · rename_i hx;cases e;subst hx;exact(z3d T uai).mono (by decide)
   split at e
   · rename_i hx;cases e;subst hx;exact(z4c T uai).mono (by decide)
   cases e
 have hct:∀t g,zrh t=some g->CCal P w K mg base 3 t g:=by
   intro t g e;unfold zrh at e;split at e
   · rename_i hx;cases e;subst hx;exact(z4d T hct1).mono (by decide)
   cases e
 have ubf:Cal P w K mg base 44 "is_alike_at" xb:=(T.ude.cal sc_is_alike_at (fun _ _ _ _ _ _=>ls4 fun _ _ _ _=>rfl) (fun f cdv A outer s H E hr=>by as_aux_lemma=>
   have nd:=sc_is_alike_at.nd;exact(zk (zp (zj7 (z2g (zf 1) (zg uak hr.rmd (zb (zf 0) zd))) (zog (zst (zfz (fun x g e=>(hft x g e).mono (by decide)) (fun t g e=>(hlt t g e).mono (by decide)) hct hr.rmd (zf 3) (zb (zf 2) (zb (zg ufm hr.rmd (zb (zf 0) (zb (zf 1) zd))) zd))))))))))
 have uau:∀n:Nat,Cal P w K mg base (4+n) "count_before" (xn n):=fun n=>by
   induction n with
   |zero=>exact T.ubd.none0 (ps:=["make", "turned", "thing", "before"]) (fun _ _ _ _ _ _=>ls4 fun _ _ _ _=>rfl)
   | succ n hself=>exact T.ubd.cal sc_count_before (fun _ _ _ _ _ _=>ls4 fun _ _ _ _=>rfl) (fun f cdv A outer s H E hr0=>by as_aux_lemma=>
     have nd:=sc_count_before.nd;have hr:=hr0.mono (z5d 4 n);exact(ze (qq (zeg (zf 0) jp) (zk (zp zn)) zt) (ze (zx 4 (zg ud1 hr.rmd (zb (zf 0) (zb (zf 1) zd))) nd) (ze (qq (yr (zfz (fun x g e=>(hft x g e).mono (by decide)) (fun t g e=>(hlt t g e).mono (by decide)) hct hr.rmd (zf 3) (zb (zu (zf 4) (zz T.uae)) (zb (zf 2) zd)))) (zk (zp (qy (qy (zg uak hr.rmd (zb (zu (zf 4) (zz T.uaa)) zd)) zn) (zg hself hr0 (zb (zu (zf 4) (zz T.uac)) (zb (zu (zf 4) (zz T.uax)) (zb (zf 2) (zb (zf 3) zd)))))))) zt) (zk (zp (zg hself hr0 (zb (zu (zf 4) (zz T.uaa)) (zb (zu (zf 4) (zz T.uax)) (zb (zf 2) (zb (zf 3) zd)))))))))))
 have uau:=uau 40;have ub2:Cal P w K mg base 45 "place_of" yp:=(T.uez.cal sc_place_of (fun _ _ _ _ _ _=>ls3 fun _ _ _=>rfl) (fun f cdv A outer s H E hr=>by as_aux_lemma=>
   have nd:=sc_place_of.nd;exact(zk (zp (zg uau hr.rmd (zb (zf 0) (zb zbi (zb (zf 1) (zb (zf 2) zd)))))))))
 have ubq:Cal P w K mg base 46 "place_of_alike" qm:=(T.ua5.cal sc_place_of_alike (fun _ _ _ _ _ _=>ls3 fun _ _ _=>rfl) (fun f cdv A outer s H E hr=>by as_aux_lemma=>
   have nd:=sc_place_of_alike.nd;exact(ze (zx 3 (zg ub2 hr.rmd (zb (zf 0) (zb (zf 1) (zb (zf 2) zd)))) nd) (ze (qq (zbd (yr (zg ubf hr.rmd (zb (zf 0) (zb (zf 3) (zb (zf 1) (zb (zf 2) zd))))))) (zk zbx) zt) (zk (zp (zf 3)))))))
 have ja:RCal P w K mg base 46 "place_of_alike" ja:=T.ua5.rcal sc_place_of_alike (fun _ _ _ _ _ _=>ls3 fun _ _ _=>rfl) (fun f cdv A outer s H E hr=>by as_aux_lemma=>
   have nd:=sc_place_of_alike.nd;exact(zpx (zx 3 (zg ub2 hr.rmd (zb (zf 0) (zb (zf 1) (zb (zf 2) zd)))) nd) (zw3 (zbd (yr (zg ubf hr.rmd (zb (zf 0) (zb (zf 3) (zb (zf 1) (zb (zf 2) zd))))))) (zje (zpy T.ufe (zb zdy zd))) zpw)))
 have udo:Cal P w K mg base 1 "sought" xk:=(T.ufs.cal sc_sought (fun _ _ _ _ _ _=>ls1 fun _=>rfl) (fun f cdv A outer s H E hr=>by as_aux_lemma=>
   have nd:=sc_sought.nd;exact(zk (zp (jn (zb (zf 0) (zb jp zd)))))))
 have ub0:Cal P w K mg base 47 "value_of" x9:=(T.ub4.cal sc_value_of (fun _ _ _ _ _ _=>ls3 fun _ _ _=>rfl) (fun f cdv A outer s H E hr=>by as_aux_lemma=>
   have nd:=sc_value_of.nd;exact(zk (zp (zu (zg ufm hr.rmd (zb (zf 0) (zb (zg ubq hr.rmd (zb (zf 0) (zb (zg udo hr.rmd (zb (zf 1) zd)) (zb (zg udw hr.rmd (zb (zf 2) zd)) zd)))) zd))) (zz T.uem))))))
 have x6:RCal P w K mg base 47 "value_of" x6:=T.ub4.rcal sc_value_of (fun _ _ _ _ _ _=>ls3 fun _ _ _=>rfl) (fun f cdv A outer s H E hr=>by as_aux_lemma=>
   have nd:=sc_value_of.nd;exact(zje (zw4 (zub (zp4 ufm (zud (zf 0) (zuc (zm1 ja hr.rmd (zb (zf 0) (zb (zg udo hr.rmd (zb (zf 1) zd)) (zb (zg udw hr.rmd (zb (zf 2) zd)) zd)))))))))))
 have ucq:Cal P w K mg base 48 "_law_refusal" yg:=(T.uco.cal sc__law_refusal (fun _ _ _ _ _ _=>ls3 fun _ _ _=>rfl) (fun f cdv A outer s H E hr=>by as_aux_lemma=>
   have nd:=sc__law_refusal.nd;exact(ze (zx 3 (zez zd) nd) (ze (zy5 4 (fun _=>(zk (zaa (zg ub0 hr.rmd (zb (zf 0) (zb (zf 1) (zb (zf 2) zd))))))) (fun _=>(zpv (zua (zm1 x6 hr.rmd (zb (zf 0) (zb (zf 1) (zb (zf 2) zd))))))) (fun _ _=>(ze (zx 5 (zoi T.up T.uaf (zb (zf 4) (zb (jn (zb (zdz T.ufh) (zb (zdz T.ueg) (zb (zdz T.ufn) (zb (zdz T.ufw) (zb (zdz T.ueq) (zb (zdz T.ue4) (zb (zdz T.ugg) (zb (zdz T.ugd) (zb (zdz T.uga) (zb (zdz T.ue3) zd))))))))))) zd))) nd) (zk (zx 3 (zez (zb (zoi T.up T.uaf (zb (zf 4) (zb (zdz T.ue2) zd))) (zb (zoi T.up T.uaf (zb (zf 4) (zb (zd0 "ValueError" T.udh F.boot_ValueError) zd))) (zb (zf 5) zd)))) nd)))) nd T.up.cat) (zk (zp (zf 3))))))).frz
 have ua0:Cal P w K mg base 1 "_law_same" j6:=(T.uea.cal sc__law_same (fun _ _ _ _ _ _=>ls2 fun _ _=>rfl) (fun f cdv A outer s H E hr=>by as_aux_lemma=>
   have nd:=sc__law_same.nd;exact(ze (qq (z2i (zvb (yr (ze1 T.uaf (zb (zf 0) (zb (zd0 "bool" T.ub7 F.boot_bool) zd)))) (zsr (yr (ze1 T.uaf (zb (zf 1) (zb (zd0 "bool" T.ub7 F.boot_bool) zd))))))) (zk (zp (zj7 (ze1 T.uaf (zb (zf 0) (zb (zd0 "bool" T.ub7 F.boot_bool) zd))) (zj7 (ze1 T.uaf (zb (zf 1) (zb (zd0 "bool" T.ub7 F.boot_bool) zd))) (zog (zvj hr (zf 0) (zf 1))))))) zt) (zk (zp (zvj hr (zf 0) (zf 1)))))))
 have ua3:Cal P w K mg base 49 "_law_asked" xu:=(T.udz.calA sc__law_asked (fun _ _ _ _ _ _=>ls4 fun _ _ _ _=>rfl) (fun f cdv co A outer s H E hr=>by as_aux_lemma=>
   have nd:=sc__law_asked.nd;apply Exists.intro;exact(ze (zx 4 (zvh 1 co T.blt rfl) nd) (ze (by exact zy7 5 (xg (x:="_law_pair") (N':=["_law_kind", "_law_mark"]) (fr:=[3,2]) (by decide +kernel) rfl rfl rfl rfl rfl) (zh0 (zf 1)) (fun _ _ _ _=>.one (zai hr (zg uai hr.rmd (zb (zf 1) (zb (zu (zf 0) zn) zd))) (zg uai hr.rmd (zb (zf 1) (zb (zf 2) zd))))) (fun _ _ _ _=>(zf 0)) nd) (ze (qq (zai hr (zf 5) (zez zd)) (zk (zp (zvj hr (by exact(zj6 ucq (CapsOk.mk rfl rfl (z5u.mpr ⟨rfl,(fun _ h=>nomatch h)⟩) (by decide +kernel) rfl (z5u.mpr ⟨rfl,(fun _ h=>nomatch h)⟩) (fun _ _=>rfl)) hr.rmd (zc1 (zf 0) (zc1 (zf 2) (zj8 (zf 4)))))) (zez (zb zbi (zb zbi (zb zbi zd))))))) zt) (zk (zp (zg ua0 hr.rmd (zb (by exact(zj6 ub0 (CapsOk.mk rfl rfl (z5u.mpr ⟨rfl,(fun _ h=>nomatch h)⟩) (by decide +kernel) rfl (z5u.mpr ⟨rfl,(fun _ h=>nomatch h)⟩) (fun _ _=>rfl)) hr.rmd (zc1 (zf 0) (zc1 (zf 2) (zj8 (zf 4)))))) (zb (zu (zu (zf 5) zn) zn) zd))))))))))
 have uad:Cal P w K mg base 1 "_law_cell" z8:=(T.ud9.cal sc__law_cell (fun _ _ _ _ _ _=>ls2 fun _ _=>rfl) (fun f cdv A outer s H E hr=>by as_aux_lemma=>
   have nd:=sc__law_cell.nd;exact(ze (zx 2 (qy (zcm (zcm (zf 1) (zf 1)) zn) zn) nd) (ze (qq (zlj (km T.uaj (zb (zf 0) zd)) zn) (zk (zx 2 (qy (jx (zu (zf 0) (jx (zf 1) (km T.uaj (zb (zf 0) zd)))) (zj5 zn zn)) (zcm (ze2 (zf 1) (km T.uaj (zb (zf 0) zd))) zn)) nd)) zt) (zk (zp (jx (zcm (jx (qy (zcm (zf 2) zn) (zcm (zf 1) zn)) zn) (qy (jx (zf 2) zn) zn)) zn)))))))
 have uas:Cal P w K mg base 1 "_law_thing" je:=(T.udi.cal sc__law_thing (fun _ _ _ _ _ _=>ls2 fun _ _=>rfl) (fun f cdv A outer s H E hr=>by as_aux_lemma=>
   have nd:=sc__law_thing.nd;exact(ze (qq (z2i (zy3 (zq6 (zf 0) zn) (zvc (zai hr (jx (zf 1) zn) zn)))) (zk (zp (zaf (qy (jx (zcm (qy (zf 1) zn) (zj5 zn zn)) (zaf (zcm zn (zj5 zn zn)) zn)) zn) (zj5 zn zn)))) zt) (ze (qq (zq6 (zf 0) zn) (zk (zp (zaf (jx (ze2 (zf 1) zn) zn) zn))) zt) (ze (zx 2 zdy nd) (ze (zii 3 nd T.uba (qy zn (jx (zf 1) zn)) (zk (zx 2 (qy (zf 2) (zu zdy (jx (ze2 (zf 1) (zu (jn (zb zn (zb zn (zb zn (zb zn (zb zn (zb zn (zb zn (zb zn zd))))))))) (zf 3))) zn))) nd)) z9q) (zk (zp (zf 2)))))))))
 have ud5:Cal P w K mg base 1 "_law_value" xr:=(T.udn.cal sc__law_value (fun _ _ _ _ _ _=>ls1 fun _=>rfl) (fun f cdv A outer s H E hr=>by as_aux_lemma=>
   have nd:=sc__law_value.nd;exact(ze (zx 1 (zez (zb (zf 0) (zb (qy zdy (zqz T.ugw (zb (jx (zf 0) zn) zd))) (zb (jn (zb (jx (zf 0) zn) (zb zdy zd))) (zb jp (zb zbi (zb zn (zb zdy (zb (jn (zb (jx (zf 0) zn) (zb (jn (zb zn (zb zdy zd))) zd))) zd))))))))) nd) (zk (zp (zu (zf 1) (jx (ze2 (zf 0) zn) zn)))))))
 have ua1:Cal P w K mg base 5 "_law_pairs" k9:=(T.udq.calL sc__law_pairs (fun _ _ _ _ _ _=>ls3 fun _ _ _=>rfl) (fun f cdv co A outer s H E hr=>by as_aux_lemma=>
   have nd:=sc__law_pairs.nd;exact(ze (zx 3 (zoh zd) nd) (ze (zii 4 nd T.uba (zf 2) (ze (zx 5 (zg uas hr.rmd (zb (zf 1) (zb (zg uad hr.rmd (zb (zf 0) (zb (qy zn (zf 4)) zd))) zd))) nd) (zk (qq (zai hr (by exact zoj (xg (x:="_law_one") (N':=["_law_kind", "_law_mark"]) (fr:=[1,5]) (by decide +kernel) rfl rfl rfl rfl rfl) (zh0 (zf 3)) (fun _ _ _ _=>.one (zai hr (zg uai hr.rmd (zb (zf 1) (zb (zf 0) zd))) (zg uai hr.rmd (zb (zf 1) (zb (zf 2) zd))))) (fun _ _ _ _=>(zf 0))) (zez zd)) (zk (zdx (zf 3) (zf 5))) zt))) z9q) (ze (zx 3 (zq0 (z3d T uai) (CapsOk.mk rfl rfl (z5u.mpr ⟨rfl,(fun _ h=>nomatch h)⟩) (by decide +kernel) rfl (z5u.mpr ⟨rfl,(fun _ h=>nomatch h)⟩) (fun _ _=>rfl)) hr.rmd (zf 3) (zsi 2 co T.blt rfl) T.ufr) nd) (zk (zp (by exact zoj (xg (x:="_law_k") (N':=["_law_keys", "_law_script"]) (fr:=[3,0]) (by decide +kernel) rfl rfl rfl rfl rfl) (zwo T.uba (km T.uaj (zb (zf 3) zd))) (fun _ _ _ _=>.nil) (fun _ _ _ _=>(jn (zb (zu (zf 1) (zf 0)) (zb (zg ud5 hr.rmd (zb (zg uad hr.rmd (zb (zf 2) (zb (qy zn (zf 0)) zd))) zd)) zd)))))))))))).frz
 have ua9:Mth P w K mg base 1 "Wood" "numbered" ju:=T.ubw.mth sc_Wood_numbered (fun _ _ _ _ _ _=>ls2 fun _ _=>rfl) (fun f cdv A outer s H E hr=>by as_aux_lemma=>
   have nd:=sc_Wood_numbered.nd;exact(ze (zx 2 (zsu T.uam (zf 0)) nd) (ze (zn8 T.uam (zf 0) (qy (zf 2) zn)) (zk (zp (qy (jn (zb (zf 2) zd)) (zf 1)))))))
 have uds:Cal P w K mg base 1 "back" zdw:=(T.ugs.cal sc_back (fun _ _ _ _ _ _=>ls1 fun _=>rfl) (fun f cdv A outer s H E hr=>by as_aux_lemma=>
   have nd:=sc_back.nd;exact(ze (qq (zeg (zf 0) jp) (zk (zp jp)) zt) (zk (zp (zu (zf 0) (zz T.ugr)))))))
 have uag:Cal P w K mg base 1 "height" jd:=(T.uf3.cal sc_height (fun _ _ _ _ _ _=>ls1 fun _=>rfl) (fun f cdv A outer s H E hr=>by as_aux_lemma=>
   have nd:=sc_height.nd;exact(ze (qq (zeg (zf 0) jp) (zk (zp zn)) zt) (zk (zp (zu (zf 0) (zz T.ufk)))))))
 have uch:Cal P w K mg base 1 "total" y7:=(T.ugh.cal sc_total (fun _ _ _ _ _ _=>ls1 fun _=>rfl) (fun f cdv A outer s H E hr=>by as_aux_lemma=>
   have nd:=sc_total.nd;exact(ze (qq (zeg (zf 0) jp) (zk (zp jp)) zt) (zk (zp (zu (zf 0) (zz T.uf7)))))))
 have uap:Mth P w K mg base 2 "Wood" "turned" qk:=T.uda.mth sc_Wood_turned (fun _ _ _ _ _ _=>ls2 fun _ _=>rfl) (fun f cdv A outer s H E hr=>by as_aux_lemma=>
   have nd:=sc_Wood_turned.nd;exact(ze (qq (zeg (zf 1) jp) (zk (zp jp)) zt) (ze (zx 2 (jn (zb (zu (zf 1) (zz T.ubk)) (zb (zu (zf 1) (zz T.ubc)) (zb (zu (zf 1) (zz T.ubb)) zd)))) nd) (zk (zp (ji ua9 hr.rmd (zf 0) (zb (qy (qy (jn (zb (zst (zu (zf 1) (zz T.ucs))) zd)) (zf 2)) (jn (zb (zg uak hr.rmd (zb (zf 1) zd)) (zb (zg uag hr.rmd (zb (zf 1) zd)) (zb (zg uds hr.rmd (zb (zf 1) zd)) (zb (zg uch hr.rmd (zb (zf 1) zd)) zd)))))) zd)))))))
 have ubj:Cal P w K mg base 1 "check_room" kx:=(T.ud6.cal sc_check_room (fun _ _ _ _ _ _=>ls1 fun _=>rfl) (fun f cdv A outer s H E hr=>by as_aux_lemma=>
   have nd:=sc_check_room.nd;exact(zk (qq (zlj (zf 0) (zz T.uc6)) (zk zbx) zt))))
 have ucp:Cal P w K mg base 2 "height_above" xm:=(T.ucm.cal sc_height_above (fun _ _ _ _ _ _=>ls2 fun _ _=>rfl) (fun f cdv A outer s H E hr=>by as_aux_lemma=>
   have nd:=sc_height_above.nd;exact(zk (zp (qy zn (zzc T.ugv (zb (zg uag hr.rmd (zb (zf 0) zd)) (zb (zg uag hr.rmd (zb (zf 1) zd)) zd))))))))
 have ua2:Cal P w K mg base 2 "in_balance" j8:=(T.ud3.cal sc_in_balance (fun _ _ _ _ _ _=>ls2 fun _ _=>rfl) (fun f cdv A outer s H E hr=>by as_aux_lemma=>
   have nd:=sc_in_balance.nd;exact(zk (zp (z2h (zsv T.uf6 (zb (zaf (zg uag hr.rmd (zb (zf 0) zd)) (zg uag hr.rmd (zb (zf 1) zd))) zd)) zn)))))
 have udp:Cal P w K mg base 2 "size_above" ku:=(T.udm.cal sc_size_above (fun _ _ _ _ _ _=>ls2 fun _ _=>rfl) (fun f cdv A outer s H E hr=>by as_aux_lemma=>
   have nd:=sc_size_above.nd;exact(zk (zp (qy (qy (zg uak hr.rmd (zb (zf 0) zd)) zn) (zg uak hr.rmd (zb (zf 1) zd)))))))
 have ucf:Cal P w K mg base 2 "backward_sum" yf:=(T.ucj.cal sc_backward_sum (fun _ _ _ _ _ _=>ls4 fun _ _ _ _=>rfl) (fun f cdv A outer s H E hr=>by as_aux_lemma=>
   have nd:=sc_backward_sum.nd;exact(ze (zx 4 (zf 2) nd) (ze (qq (zc0 (zf 3) jp) (zk (zx 4 (za9 hft hlt hr.rmd (zf 0) (zb (zg uds hr.rmd (zb (zf 3) zd)) (zb (zf 4) zd))) nd)) zt) (ze (qq (zc0 (zf 1) jp) (zk (zx 4 (za9 hft hlt hr.rmd (zf 0) (zb (zf 4) (zb (zg uds hr.rmd (zb (zf 1) zd)) zd))) nd)) zt) (zk (zp (zf 4))))))))
 have udf:Cal P w K mg base 2 "onward_sum" zav:=(T.udr.cal sc_onward_sum (fun _ _ _ _ _ _=>ls4 fun _ _ _ _=>rfl) (fun f cdv A outer s H E hr=>by as_aux_lemma=>
   have nd:=sc_onward_sum.nd;exact(ze (zx 4 (zf 2) nd) (ze (qq (zc0 (zf 1) jp) (zk (zx 4 (za9 hft hlt hr.rmd (zf 0) (zb (zg uch hr.rmd (zb (zf 1) zd)) (zb (zf 4) zd))) nd)) zt) (ze (qq (zc0 (zf 3) jp) (zk (zx 4 (za9 hft hlt hr.rmd (zf 0) (zb (zf 4) (zb (zg uch hr.rmd (zb (zf 3) zd)) zd))) nd)) zt) (zk (zp (zf 4))))))))
 have udx:Cal P w K mg base 3 "sums_above" xq:=(T.udv.cal sc_sums_above (fun _ _ _ _ _ _=>ls4 fun _ _ _ _=>rfl) (fun f cdv A outer s H E hr=>by as_aux_lemma=>
   have nd:=sc_sums_above.nd;exact(ze (qq (zeg (zf 0) jp) (zk (zp (jn (zb jp (zb jp zd))))) zt) (zk (zp (jn (zb (zg udf hr.rmd (zb (zf 0) (zb (zf 1) (zb (zf 2) (zb (zf 3) zd))))) (zb (zg ucf hr.rmd (zb (zf 0) (zb (zf 1) (zb (zf 2) (zb (zf 3) zd))))) zd))))))))
 have uab:Mth P w K mg base 4 "Wood" "node" qd:=T.uei.mth sc_Wood_node (fun _ _ _ _ _ _=>ls4 fun _ _ _ _=>rfl) (fun f cdv A outer s H E hr=>by as_aux_lemma=>
   have nd:=sc_Wood_node.nd;exact(ze (zx 4 (zg udp hr.rmd (zb (zf 1) (zb (zf 3) zd))) nd) (ze (zaa (zg ubj hr.rmd (zb (zf 4) zd))) (ze (qq (zbd (yr (zg ua2 hr.rmd (zb (zf 1) (zb (zf 3) zd))))) (zk zbx) zt) (ze (zx 5 (jn (zb (zf 4) (zb (zg ucp hr.rmd (zb (zf 1) (zb (zf 3) zd))) zd))) nd) (ze (zx 6 (zg udx hr.rmd (zb (zsu T.ubg (zf 0)) (zb (zf 1) (zb (zf 2) (zb (zf 3) zd))))) nd) (zk (zp (ji ua9 hr.rmd (zf 0) (zb (qy (qy (jn (zb zbi (zb (zf 1) (zb (zf 2) (zb (zf 3) zd))))) (zf 5)) (zf 6)) zd))))))))))
 have ucg:∀n:Nat,Cal P w K mg base (5+n) "built" (zfw n):=fun n=>by
   induction n with
   |zero=>exact T.uen.none0 (ps:=["wood", "things", "start", "end"]) (fun _ _ _ _ _ _=>ls4 fun _ _ _ _=>rfl)
   | succ n hself=>exact T.uen.cal sc_built (fun _ _ _ _ _ _=>ls4 fun _ _ _ _=>rfl) (fun f cdv A outer s H E hr0=>by as_aux_lemma=>
     have nd:=sc_built.nd;have hr:=hr0.mono (z5d 5 n);exact(ze (qq (zai hr (zf 2) (zf 3)) (zk (zp jp)) zt) (ze (zx 4 (ze2 (qy (zf 2) (zf 3)) zn) nd) (ze (zx 5 (zg hself hr0 (zb (zf 0) (zb (zf 1) (zb (zf 2) (zb (zf 4) zd))))) nd) (ze (zx 6 (zg hself hr0 (zb (zf 0) (zb (zf 1) (zb (qy (zf 4) zn) (zb (zf 3) zd))))) nd) (zk (zp (ji uab hr.rmd (zf 0) (zb (zf 5) (zb (zu (zf 1) (zf 4)) (zb (zf 6) zd)))))))))))
 have ucg:=ucg 40;have ubl:Cal P w K mg base 46 "make_of" zaw:=(T.ufd.cal sc_make_of (fun _ _ _ _ _ _=>ls2 fun _ _=>rfl) (fun f cdv A outer s H E hr=>by as_aux_lemma=>
   have nd:=sc_make_of.nd;exact(ze (zaa (zg ubj hr.rmd (zb (km T.uaj (zb (zf 1) zd)) zd))) (zk (zp (zg ucg hr.rmd (zb (zf 0) (zb (zf 1) (zb zn (zb (km T.uaj (zb (zf 1) zd)) zd))))))))))
 have ubx:Cal P w K mg base 2 "check_stretch" kl:=(T.uca.cal sc_check_stretch (fun _ _ _ _ _ _=>ls3 fun _ _ _=>rfl) (fun f cdv A outer s H E hr=>by as_aux_lemma=>
   have nd:=sc_check_stretch.nd;exact(zk (qq (zbd (zok zn (zf 1) (zf 2) (zg uak hr.rmd (zb (zf 0) zd)))) (zk zbx) zt))))
 have uaq:Cal P w K mg base 3 "parts" xa:=(T.uf9.cal sc_parts (fun _ _ _ _ _ _=>ls2 fun _ _=>rfl) (fun f cdv A outer s H E hr=>by as_aux_lemma=>
   have nd:=sc_parts.nd;exact(ze (qq (zbd (yr (zu (zf 1) (zz T.ucs)))) (zk (zp (jn (zb (zu (zf 1) (zz T.ubk)) (zb (zu (zf 1) (zz T.ubc)) (zb (zu (zf 1) (zz T.ubb)) zd)))))) zt) (ze (zx 2 (ji uap hr.rmd (zf 0) (zb (zu (zf 1) (zz T.ubb)) zd)) nd) (ze (zx 3 (ji uap hr.rmd (zf 0) (zb (zu (zf 1) (zz T.ubk)) zd)) nd) (zk (zp (jn (zb (zf 2) (zb (zu (zf 1) (zz T.ubc)) (zb (zf 3) zd)))))))))))
 have uc7:Cal P w K mg base 5 "lifted_left" y8:=(T.ucu.cal sc_lifted_left (fun _ _ _ _ _ _=>ls4 fun _ _ _ _=>rfl) (fun f cdv A outer s H E hr=>by as_aux_lemma=>
   have nd:=sc_lifted_left.nd;exact(ze (zx 4 (zg uaq hr.rmd (zb (zf 0) (zb (zf 1) zd))) nd) (ze (qq (zzl (zg uag hr.rmd (zb (zu (zf 4) (zz T.uaa)) zd)) (zg uag hr.rmd (zb (zu (zf 4) (zz T.uac)) zd))) (zk (zp (ji uab hr.rmd (zf 0) (zb (zu (zf 4) (zz T.uaa)) (zb (zu (zf 4) (zz T.uae)) (zb (ji uab hr.rmd (zf 0) (zb (zu (zf 4) (zz T.uac)) (zb (zf 2) (zb (zf 3) zd)))) zd)))))) zt) (ze (zx 5 (zg uaq hr.rmd (zb (zf 0) (zb (zu (zf 4) (zz T.uac)) zd))) nd) (ze (zx 6 (ji uab hr.rmd (zf 0) (zb (zu (zf 4) (zz T.uaa)) (zb (zu (zf 4) (zz T.uae)) (zb (zu (zf 5) (zz T.uaa)) zd)))) nd) (ze (zx 7 (ji uab hr.rmd (zf 0) (zb (zu (zf 5) (zz T.uac)) (zb (zf 2) (zb (zf 3) zd)))) nd) (zk (zp (ji uab hr.rmd (zf 0) (zb (zf 6) (zb (zu (zf 5) (zz T.uae)) (zb (zf 7) zd)))))))))))))
 have uct:Cal P w K mg base 5 "lifted_right" yd:=(T.uce.cal sc_lifted_right (fun _ _ _ _ _ _=>ls4 fun _ _ _ _=>rfl) (fun f cdv A outer s H E hr=>by as_aux_lemma=>
   have nd:=sc_lifted_right.nd;exact(ze (zx 4 (zg uaq hr.rmd (zb (zf 0) (zb (zf 3) zd))) nd) (ze (qq (zzl (zg uag hr.rmd (zb (zu (zf 4) (zz T.uac)) zd)) (zg uag hr.rmd (zb (zu (zf 4) (zz T.uaa)) zd))) (zk (zp (ji uab hr.rmd (zf 0) (zb (ji uab hr.rmd (zf 0) (zb (zf 1) (zb (zf 2) (zb (zu (zf 4) (zz T.uaa)) zd)))) (zb (zu (zf 4) (zz T.uae)) (zb (zu (zf 4) (zz T.uac)) zd)))))) zt) (ze (zx 5 (zg uaq hr.rmd (zb (zf 0) (zb (zu (zf 4) (zz T.uaa)) zd))) nd) (ze (zx 6 (ji uab hr.rmd (zf 0) (zb (zf 1) (zb (zf 2) (zb (zu (zf 5) (zz T.uaa)) zd)))) nd) (ze (zx 7 (ji uab hr.rmd (zf 0) (zb (zu (zf 5) (zz T.uac)) (zb (zu (zf 4) (zz T.uae)) (zb (zu (zf 4) (zz T.uac)) zd)))) nd) (zk (zp (ji uab hr.rmd (zf 0) (zb (zf 6) (zb (zu (zf 5) (zz T.uae)) (zb (zf 7) zd)))))))))))))
 have ube:Cal P w K mg base 6 "balanced" j9:=(T.uer.cal sc_balanced (fun _ _ _ _ _ _=>ls4 fun _ _ _ _=>rfl) (fun f cdv A outer s H E hr=>by as_aux_lemma=>
   have nd:=sc_balanced.nd;exact(ze (qq (yr (zg ua2 hr.rmd (zb (zf 1) (zb (zf 3) zd)))) (zk (zp (ji uab hr.rmd (zf 0) (zb (zf 1) (zb (zf 2) (zb (zf 3) zd)))))) zt) (ze (qq (zlj (zg uag hr.rmd (zb (zf 1) zd)) (zg uag hr.rmd (zb (zf 3) zd))) (zk (zp (zg uc7 hr.rmd (zb (zf 0) (zb (zf 1) (zb (zf 2) (zb (zf 3) zd))))))) zt) (zk (zp (zg uct hr.rmd (zb (zf 0) (zb (zf 1) (zb (zf 2) (zb (zf 3) zd)))))))))))
 have uaw:∀n:Nat,Cal P w K mg base (7+n) "joined" (x4 n):=fun n=>by
   induction n with
   |zero=>exact T.ud2.none0 (ps:=["wood", "left", "thing", "right"]) (fun _ _ _ _ _ _=>ls4 fun _ _ _ _=>rfl)
   | succ n hself=>exact T.ud2.cal sc_joined (fun _ _ _ _ _ _=>ls4 fun _ _ _ _=>rfl) (fun f cdv A outer s H E hr0=>by as_aux_lemma=>
     have nd:=sc_joined.nd;have hr:=hr0.mono (z5d 7 n);exact(ze (qq (yr (zg ua2 hr.rmd (zb (zf 1) (zb (zf 3) zd)))) (zk (zp (ji uab hr.rmd (zf 0) (zb (zf 1) (zb (zf 2) (zb (zf 3) zd)))))) zt) (ze (qq (zlj (zg uag hr.rmd (zb (zf 1) zd)) (zg uag hr.rmd (zb (zf 3) zd))) (ze (zx 4 (zg uaq hr.rmd (zb (zf 0) (zb (zf 1) zd))) nd) (zk (zp (zg ube hr.rmd (zb (zf 0) (zb (zu (zf 4) (zz T.uaa)) (zb (zu (zf 4) (zz T.uae)) (zb (zg hself hr0 (zb (zf 0) (zb (zu (zf 4) (zz T.uac)) (zb (zf 2) (zb (zf 3) zd))))) zd)))))))) zt) (ze (zx 4 (zg uaq hr.rmd (zb (zf 0) (zb (zf 3) zd))) nd) (zk (zp (zg ube hr.rmd (zb (zf 0) (zb (zg hself hr0 (zb (zf 0) (zb (zf 1) (zb (zf 2) (zb (zu (zf 4) (zz T.uaa)) zd))))) (zb (zu (zf 4) (zz T.uae)) (zb (zu (zf 4) (zz T.uac)) zd)))))))))))
 have uaw:=uaw 40;have uay:∀n:Nat,Cal P w K mg base (48+n) "cut_ahead" (kj n):=fun n=>by
   induction n with
   |zero=>exact T.ubo.none0 (ps:=["wood", "make", "place"]) (fun _ _ _ _ _ _=>ls3 fun _ _ _=>rfl)
   | succ n hself=>exact T.ubo.cal sc_cut_ahead (fun _ _ _ _ _ _=>ls3 fun _ _ _=>rfl) (fun f cdv A outer s H E hr0=>by as_aux_lemma=>
     have nd:=sc_cut_ahead.nd;have hr:=hr0.mono (z5d 48 n);exact(ze (qq (zai hr (zf 2) zn) (zk (zp (jn (zb jp (zb (zf 1) zd))))) zt) (ze (qq (zai hr (zf 2) (zg uak hr.rmd (zb (zf 1) zd))) (zk (zp (jn (zb (zf 1) (zb jp zd))))) zt) (ze (zx 3 (zg uaq hr.rmd (zb (zf 0) (zb (zf 1) zd))) nd) (ze (zx 4 (zg uak hr.rmd (zb (zu (zf 3) (zz T.uaa)) zd)) nd) (ze (qq (z2k (zf 2) (zf 4)) (ze (zx 5 (zg hself hr0 (zb (zf 0) (zb (zu (zf 3) (zz T.uaa)) (zb (zf 2) zd)))) nd) (zk (zp (jn (zb (zu (zf 5) zn) (zb (zg uaw hr.rmd (zb (zf 0) (zb (zu (zf 5) zn) (zb (zu (zf 3) (zz T.uae)) (zb (zu (zf 3) (zz T.uac)) zd))))) zd)))))) zt) (ze (zx 5 (zg hself hr0 (zb (zf 0) (zb (zu (zf 3) (zz T.uac)) (zb (zaf (zaf (zf 2) (zf 4)) zn) zd)))) nd) (zk (zp (jn (zb (zg uaw hr.rmd (zb (zf 0) (zb (zu (zf 3) (zz T.uaa)) (zb (zu (zf 3) (zz T.uae)) (zb (zu (zf 5) zn) zd))))) (zb (zu (zf 5) zn) zd))))))))))))
 have uay:=uay 40;have uek:=zcl (P:=P) (w:=w) (base:=base) T ube uaq uak uaw uar 40;have ua7:=zae (P:=P) (w:=w) (base:=base) T uaw uar uek;have uc3:Cal P w K mg base 130 "turned_part" y6:=(T.uc2.cal sc_turned_part (fun _ _ _ _ _ _=>ls4 fun _ _ _ _=>rfl) (fun f cdv A outer s H E hr=>by as_aux_lemma=>
   have nd:=sc_turned_part.nd;exact(ze (zaa (zg ubx hr.rmd (zb (zf 1) (zb (zf 2) (zb (zf 3) zd))))) (ze (zx 4 (zg uay hr.rmd (zb (zf 0) (zb (zf 1) (zb (zf 3) zd)))) nd) (ze (zx 5 (zg uay hr.rmd (zb (zf 0) (zb (zu (zf 4) zn) (zb (zf 2) zd)))) nd) (ze (zx 6 (zg ua7 hr.rmd (zb (zf 0) (zb (zu (zf 5) zn) (zb (ji uap hr.rmd (zf 0) (zb (zu (zf 5) zn) zd)) zd)))) nd) (zk (zp (zg ua7 hr.rmd (zb (zf 0) (zb (zf 6) (zb (zu (zf 4) zn) zd))))))))))))
 have ua4:Cal P w K mg base 131 "_law_table" kz:=(T.udg.cal sc__law_table (fun _ _ _ _ _ _=>ls3 fun _ _ _=>rfl) (fun f cdv A outer s H E hr=>by as_aux_lemma=>
   have nd:=sc__law_table.nd;exact(ze (zx 3 (jx (zg uad hr.rmd (zb (zf 0) (zb zn zd))) zn) nd) (ze (qq (zai hr (zf 3) zn) (zk (zp (zg ubl hr.rmd (zb (zf 1) (zb (zq2 T.ubi (zb (zf 2) zd)) zd))))) zt) (ze (qq (zai hr (zf 3) zn) (zk (zp (ji uap hr.rmd (zf 1) (zb (zg ubl hr.rmd (zb (zf 1) (zb (ze0 T.ubi T.ub8 (zf 2)) zd))) zd)))) zt) (ze (zx 4 (jx (zg uad hr.rmd (zb (zf 0) (zb zn zd))) (qy (km T.uaj (zb (zf 2) zd)) zn)) nd) (ze (zx 5 (qy (zf 4) (jx (zg uad hr.rmd (zb (zf 0) (zb zn zd))) (zaf (qy (km T.uaj (zb (zf 2) zd)) zn) (zf 4)))) nd) (ze (zx 6 (ze0 T.ubi T.ub8 (za8 (zf 2) (zax (zf 4)) (zax (zf 5)))) nd) (zk (zp (zg uc3 hr.rmd (zb (zf 1) (zb (zg ubl hr.rmd (zb (zf 1) (zb (qy (qy (za8 (zf 2) zcf (zax (zf 4))) (zf 6)) (za8 (zf 2) (zax (zf 5)) zcf)) zd))) (zb (zf 4) (zb (zf 5) zd)))))))))))))))
 have ubu:∀n:Nat,Cal P w K mg base (2+n) "gather" (zcy n):=fun n=>by
   induction n with
   |zero=>exact T.udy.none0 (ps:=["make", "turned", "found"]) (fun _ _ _ _ _ _=>ls3 fun _ _ _=>rfl)
   | succ n hself=>exact T.udy.cal sc_gather (fun _ _ _ _ _ _=>ls3 fun _ _ _=>rfl) (fun f cdv A outer s H E hr0=>by as_aux_lemma=>
     have nd:=sc_gather.nd;have hr:=hr0.mono (z5d 2 n);exact(ze (qq (zeg (zf 0) jp) (zk zvd) zt) (ze (zx 3 (zg ud1 hr.rmd (zb (zf 0) (zb (zf 1) zd))) nd) (ze (zaa (zg hself hr0 (zb (zu (zf 3) (zz T.uaa)) (zb (zu (zf 3) (zz T.uax)) (zb (zf 2) zd))))) (ze (zdx (zf 2) (zu (zf 3) (zz T.uae))) (zk (zaa (zg hself hr0 (zb (zu (zf 3) (zz T.uac)) (zb (zu (zf 3) (zz T.uax)) (zb (zf 2) zd)))))))))))
 have ubu:=ubu 40;have uao:Cal P w K mg base 43 "things_of" jt:=(T.ueh.cal sc_things_of (fun _ _ _ _ _ _=>ls1 fun _=>rfl) (fun f cdv A outer s H E hr=>by as_aux_lemma=>
   have nd:=sc_things_of.nd;exact(ze (zx 1 (zoh zd) nd) (ze (zaa (zg ubu hr.rmd (zb (zf 0) (zb zbi (zb (zf 1) zd))))) (zk (zp (zf 1))))))).frz
 have ua6:Cal P w K mg base 44 "keys_of" yq:=(T.ue7.cal sc_keys_of (fun _ _ _ _ _ _=>ls1 fun _=>rfl) (fun f cdv A outer s H E hr=>by as_aux_lemma=>
   have nd:=sc_keys_of.nd;exact(zk (zp (by exact zzg (xg (x:="pair") (N':=[]) (fr:=[]) (by decide +kernel) rfl rfl rfl rfl rfl) (zh0 (zg uao hr.rmd (zb (zf 0) zd))) (fun _ _ _ _=>.nil) (fun _ _ _ _=>(zu (zf 0) (zz T.ueu))))))))
 have uaz:Cal P w K mg base 44 "values_of" xj:=(T.uec.cal sc_values_of (fun _ _ _ _ _ _=>ls1 fun _=>rfl) (fun f cdv A outer s H E hr=>by as_aux_lemma=>
   have nd:=sc_values_of.nd;exact(zk (zp (by exact zzg (xg (x:="pair") (N':=[]) (fr:=[]) (by decide +kernel) rfl rfl rfl rfl rfl) (zh0 (zg uao hr.rmd (zb (zf 0) zd))) (fun _ _ _ _=>.nil) (fun _ _ _ _=>(zu (zf 0) (zz T.uem))))))))
 exact⟨T,⟨uan,ua3,uad,ua1,ua0,ua4,uas,ua6,uao,uaz⟩⟩
end Pg
open PySem PySem.W L2 F PySem.Spec PyProof.Rows
namespace PySem.W.Fast
def tw11769051274103431189:=()
def tw12489038867732009198:=()
def tw5181614103282609112:=()
def tw611363107660767985:=()
def tw7705559551721461215:=()
def tw2194190591344627603:=()
def tw8553875982212523862:=()
def tw9435779902479467811:=()
def tw13679614756043582363:=()
def tw11066500489165009861:=()
def tw9375411309493843177:=()
def tw5377997505411002242:=()
def tw8094833409560354683:=()
def tw11925002458814032598:=()
def tw3060989801662788811:=()
def tw17709186909987997561:=()
def tw3962810503955489836:=()
def tw2725378629765961566:=()
def tw3393138094310969948:=()
def tw10535966538836092276:=()
def tw16710785550781547638:=()
def tw1046161697551674346:=()
def tw7130577493071858722:=()
def tw11088017056573458525:=()
def tw11669281967497231561:=()
def tw2097016167737062357:=()
def tw6690380129309413339:=()
def tw11227936711130987962:=()
def tw469706282507296487:=()
def tw11605975898811395154:=()
def tw8579229909529095118:=()
def tw12878100968333249884:=()
def tw14992525988845882602:=()
def tw7516565006332116041:=()
def tw11931891384059920957:=()
def tw17977300748129001073:=()
def tw895847103817750924:=()
def tw12590197477756338991:=()
def tw16026640613996078458:=()
def tw15358403832263650014:=()
def tw7514696439569594789:=()
def tw8119278131732728118:=()
def tw1848779536958812952:=()
def tw3832530702062599338:=()
def tw13191321821391446681:=()
def tw879468445079843949:=()
def tw9771978768225781609:=()
def tw16293859607589673580:=()
def tw11602721970567804247:=()
def tw11120695811441954250:=()
def tw12043361217612586263:=()
def tw12139741957157405661:=()
def tw2109406908818099518:=()
def tw14084291945298565518:=()
def tw4700470129486743959:=()
def tw15192854022957202053:=()
def tw13987827817453359907:=()
def tw8115010066481796244:=()
def tw5677963207248211566:=()
def tw1235913637378877440:=()
def tw8483715571094447973:=()
def tw1864355822864270897:=()
def tw7086907968547926030:=()
def tw10303075795796027942:=()
def tw2111546457350793202:=()
def tw4704936278262152451:=()
def tw3600463413635391365:=()
def tw2080001551354187822:=()
def tw9857065326171840774:=()
def tw16614769184513866938:=()
def tw6239412195152332190:=()
def tw9246927584365443915:=()
def tw282062902482279895:=()
def tw4888785678304107644:=()
def tw14358449236043361596:=()
def tw16439771534217133811:=()
def tw1317891781610394583:=()
def tw1611363763113538728:=()
def tw7898188564054520976:=()
def tw6830815855938328005:=()
def tw10399481116002631758:=()
def tw13021638179650478064:=()
def tw9476670759236131342:=()
def tw18165341103589860034:=()
def tw13103346474077315419:=()
def tw6474527212026926469:=()
def tw13367342093720924538:=()
def tw15921163209713147341:=()
def tw3416236503766604608:=()
def tw13221156502084824617:=()
def tw17678502562439383587:=()
def tw3981279575755197758:=()
def tw3295218306699229744:=()
def tw12756248228898978765:=()
def tw5090753786097578797:=()
def tw13294437337665587467:=()
def tw9379129206812044727:=()
def tw11652135739239425040:=()
def tw16107630230852726828:=()
def tw3069508401384131644:=()
def tw10439207849248966963:=()
def tw7862215832112005282:=()
def tw8747240190246043401:=()
def tw11827042092707621739:=()
def tw13926704106212939691:=()
def tw13375204277955359764:=()
def tw12000360017635773723:=()
def tw8682671921745226606:=()
def tw16750261839322595741:=()
def tw8267360179400622176:=()
def tw13108439248486918879:=()
def tw8532535037375118403:=()
def tw15390009856252589300:=()
def tw12994260342517751972:=()
def tw9558851588304509302:=()
def tw2434405228440660665:=()
def tw18424693045468510720:=()
def tw7673994200241983781:=()
def tw4579532365113352078:=()
def tw5069341890874147402:=()
def tw4340876308683838963:=()
def tw8445058498139568739:=()
def tw10959968153651430257:=()
def tw6791304352627027359:=()
def tw442942668415759285:=()
def tw16034902431063839995:=()
def tw2513541046474774682:=()
def tw16673773053245550830:=()
def tw4194751436565504515:=()
def tw1917875310164805274:=()
def tw4733388044522402651:=()
def tw9328656543475493234:=()
def tw16375449632122497011:=()
def tw3609460775074342213:=()
def tw5554572849570784286:=()
def tw165167447889768716:=()
def tw3080851438761255343:=()
def tw9323385710056658722:=()
def tw4392401161440615938:=()
def tw18210283799155027024:=()
def tw3726377398165984147:=()
def tw7676313033056564689:=()
def tw3764186752157889365:=()
def tw9100221455544406403:=()
def tw17007133308463966431:=()
def tw8114648624373932142:=()
def tw9636790582817043829:=()
def tw6584691792082091900:=()
def tw13937008222629435845:=()
def tw5978956676035559167:=()
def tw9770378429615008860:=()
def tw948950188466679071:=()
def tw17842353399082687489:=()
def tw177020724016330680:=()
def tw11051517171034871781:=()
def tw5954374400370604509:=()
def tw7965113720777562762:=()
def tw2287667124599440261:=()
def tw8204299202117085807:=()
def tw17060332574845910964:=()
def tw12867242807181960361:=()
def tw11142231440972610708:=()
def tw13407035823880752973:=()
def tw12724830453351982710:=()
def tw16303024182859335661:=()
def tw3598969600093870845:=()
def tw1419049598884663392:=()
def tw12597560491453006139:=()
def tw7117294714359352285:=()
def tw18204973965261139943:=()
def tw15864046760960766332:=()
def tw11804941422612715256:=()
def tw14542144733084229067:=()
def tw6907961473416573650:=()
def tw8636493583901056757:=()
def tw8340514460811862276:=()
def tw17166139404013782180:=()
def tw6455467267108426211:=()
def tw2611932816259406825:=()
def tw12443584981438615418:=()
def tw17393336596685235319:=()
def tw15683281316845018096:=()
def tw916790777142116904:=()
def tw2281417065185705377:=()
def tw8571203023183738211:=()
def tw13969563521917861474:=()
def tw10485753713040037136:=()
def tw12526130538584729352:=()
def tw13576060622356633352:=()
def tw8389533144042161796:=()
def tw18108503232742726016:=()
def tw18142217929514093535:=()
def tw7442649443373507035:=()
def tw6694813233130437900:=()
def tw17389473121839369317:=()
def tw11563738447414356800:=()
def tw14550666952785122879:=()
def tw9828540268406973230:=()
def tw6479036083640550722:=()
def tw13482035949202190959:=()
def tw7429497397411961042:=()
def tw9606954966752819790:=()
def tw2606731046438783950:=()
def tw16678290337716151338:=()
def tw10762249543653064149:=()
def tw13038394817324419305:=()
def tw16653452181163764075:=()
def tw6459110824416774886:=()
def tw8872927504638780587:=()
def tw16798068447681220763:=()
def tw16011567613923139847:=()
def tw1294951219803532558:=()
def tw2106923787675800601:=()
def tw8715143920691725007:=()
def tw2050891635264296094:=()
def tw5262075732939324684:=()
def tw8512456647888484436:=()
def tw13323952793827720042:=()
def tw4004917159608389366:=()
def tw2115598457016804434:=()
def tw17719767146829066679:=()
def tw5922476662191003713:=()
def tw17186880128103902355:=()
def tw5250391091218198974:=()
def tw3482541832298542445:=()
def tw16055882718424792301:=()
def tw15089397146226674812:=()
def tw2336109426217284246:=()
def tw547645559617791541:=()
def tw8915831987585564670:=()
def tw3125946424941260003:=()
def tw17079858694991343859:=()
def tw955475120324592735:=()
def tw7643061955461084172:=()
def tw11115912974377466689:=()
def tw8250826359043018462:=()
def tw11115444207566204801:=()
def tw5591396936778292604:=()
def tw11450303657774712856:=()
def tw16703410093465092694:=()
def tw10472005925558069924:=()
def tw6565236837617141216:=()
def tw1204976197762910897:=()
def tw1582546043650191843:=()
def tw9183217305395085029:=()
def tw10379700287709581443:=()
def tw11785203286337592289:=()
def tw5167292148972497675:=()
def tw6930491457610114479:=()
def tw18254619428673248697:=()
def tw12480279167613465403:=()
def tw5784147921348045642:=()
def tw15141325195798005494:=()
def tw13218641243253205940:=()
def tw12629365004567059776:=()
def tw11818682099229777727:=()
def tw6625691678779357702:=()
def tw9490913806033297967:=()
def tw17631081983583297898:=()
def tw13762516890487177544:=()
def tw10743727982399667451:=()
def tw2231875694082727294:=()
def tw15926714049226617582:=()
def tw4492598862778392178:=()
def tw4445597893037191052:=()
def tw11750171810687405626:=()
def tw1691711085019530548:=()
def tw10826278487185282050:=()
def tw17007410464685724132:=()
def tw29369069995909263:=()
def tw17769729560935867944:=()
def tw933596606525063232:=()
def tw16909459021045586774:=()
def tw4239992957799033579:=()
def tw2895033237670652816:=()
def tw16213363012824571281:=()
def tw1789401219946996931:=()
def tw17661813456628402159:=()
def tw5830661267941990623:=()
def tw5943628101389857318:=()
def tw16634796555783458864:=()
def tw13356374317780378001:=()
def tw18334763060281213808:=()
def tw12214173206279185296:=()
def tw14463041542861303121:=()
def tw10081343419766476020:=()
def tw15141405487153824843:=()
def tw9235636711676331344:=()
def tw8731846258201070328:=()
def tw2728940291332131410:=()
def tw875038596331516616:=()
def tw12729425713218774073:=()
def tw15265566835027141437:=()
def tw9696604849342927882:=()
def tw15304458068065007008:=()
def tw11412708735450421492:=()
def tw12794745190960948694:=()
def tw11718254651107781113:=()
def tw9527420128700382225:=()
def tw12565572679270888845:=()
def tw575580027304670440:=()
def tw13959777907214335711:=()
def tw3431401197972782708:=()
def tw8011226066721321179:=()
def tw10534335306704350305:=()
def tw3587571231360434073:=()
def tw4742834281230496286:=()
def tw356226861604310902:=()
def tw9927543181455166537:=()
def tw6193494505037109126:=()
def tw10107529957512820086:=()
def tw13223254668072315460:=()
def tw8940127989697205562:=()
def tw3780885197441766455:=()
def tw17370486078287032181:=()
def tw10899426314175440155:=()
def tw2225208009000956144:=()
def tw6477429011743266741:=()
def tw13756466657030993580:=()
def tw4870058285575754570:=()
def tw11984155153496703988:=()
def tw7102070521697651893:=()
def tw1446227696761165872:=()
def tw15635167285355793012:=()
def tw17543949781934588931:=()
def tw14191086403353676493:=()
def tw677633253469612269:=()
def tw16970810005496294602:=()
def tw4662480426096660090:=()
def tw11842000100759935968:=()
def tw2628116152665470063:=()
def tw3077762685812143932:=()
def tw1493272195447945762:=()
def tw5661534996604500913:=()
def tw17111588825091663830:=()
def tw9399614533401592594:=()
def tw2625209284535479657:=()
def tw17515918880966376367:=()
def tw5010224453874548827:=()
def tw6308155301713112093:=()
end PySem.W.Fast
set_option maxRecDepth 100000 in
set_option maxHeartbeats 0 in
theorem PySem.Challenge.cw_ownshelf_k23_values_of_keys_holds : PySem.Challenge.rw_ownshelf_k23_values_of_keys.Holds := by
 w_on;o_law;k_head;(case hw=>w_witness2)
 k_fill
 refine F.law_walkT (l:=PySem.Challenge.rw_ownshelf_k23_values_of_keys) (k:=132) (g:=Pg.g_law) (x:="_law_script") Pg.tabs rfl rfl ⟨rfl,by decide,by decide⟩ (by decide) (by decide) rfl Pg.law_ok ?F
 case F=>
   intro w mg fa h KX G hmg;have uc1:mg "ValueError"=none:=by refine' z6d KX G ?a_7;k_is
   have ugn:mg "abs"=none:=by refine' z6d KX G ?a_8;k_is
   have ugk:mg "bool"=none:=by refine' z6d KX G ?a_9;k_is
   have uc4:mg "isinstance"=none:=by refine' z6d KX G ?a_10;k_is
   have ugt:mg "len"=none:=by refine' z6d KX G ?a_11;k_is
   have ugi:mg "list"=none:=by refine' z6d KX G ?a_12;k_is
   have ugo:mg "max"=none:=by refine' z6d KX G ?a_13;k_is
   have uf0:mg "range"=none:=by refine' z6d KX G ?a_14;k_is
   have uel:mg "reversed"=none:=by refine' z6d KX G ?a_15;k_is
   have ue0:mg "sorted"=none:=by refine' z6d KX G ?a_16;k_is
   have ugq:mg "str"=none:=by refine' z6d KX G ?a_17;k_is
   have ufz:∃t,mg "ABOUT"=some (.int 1 t):=by refine' F.has_int KX G ?a_18;(case a_18=>k_is)
   have uf4:∃t,mg "AHEAD"=some (.int 0 t):=by refine' F.has_int KX G ?a_19;(case a_19=>k_is)
   have ugc:∃t,mg "BACK"=some (.int 8 t):=by refine' F.has_int KX G ?a_20;(case a_20=>k_is)
   have ufc:∃t,mg "BEHIND"=some (.int 2 t):=by refine' F.has_int KX G ?a_21;(case a_21=>k_is)
   have ufg:∃t,mg "HEIGHT"=some (.int 6 t):=by refine' F.has_int KX G ?a_22;(case a_22=>k_is)
   have ugm:∃t,mg "KEY"=some (.int 0 t):=by refine' F.has_int KX G ?a_23;(case a_23=>k_is)
   have ugf:∃t,mg "LEFT"=some (.int 2 t):=by refine' F.has_int KX G ?a_24;(case a_24=>k_is)
   have ufj:∃t,mg "MIDDLE"=some (.int 1 t):=by refine' F.has_int KX G ?a_25;(case a_25=>k_is)
   have ucd:∃t,mg "MOST_THINGS"=some (.int 2000 t):=by refine' F.has_int KX G ?a_26;(case a_26=>k_is)
   have uf1:∃t,mg "RIGHT"=some (.int 4 t):=by refine' F.has_int KX G ?a_27;(case a_27=>k_is)
   have ugj:∃t,mg "SIZE"=some (.int 5 t):=by refine' F.has_int KX G ?a_28;(case a_28=>k_is)
   have ufl:∃t,mg "THING"=some (.int 3 t):=by refine' F.has_int KX G ?a_29;(case a_29=>k_is)
   have ufu:∃t,mg "TOTAL"=some (.int 7 t):=by refine' F.has_int KX G ?a_30;(case a_30=>k_is)
   have ue8:∃t,mg "TURNED"=some (.int 3 t):=by refine' F.has_int KX G ?a_31;(case a_31=>k_is)
   have uf2:∃t,mg "VALUE"=some (.int 1 t):=by refine' F.has_int KX G ?a_32;(case a_32=>k_is)
   have uep:∃f,mg "Changed"=some (.ref f):=by refine' F.has_val KX G ?a_33;(case a_33=>k_is)
   have ud0:∃f,mg "NoBalance"=some (.ref f):=by refine' F.has_val KX G ?a_34;(case a_34=>k_is)
   have ue1:∃f,mg "NoMore"=some (.ref f):=by refine' F.has_val KX G ?a_35;(case a_35=>k_is)
   have ue5:∃f,mg "NoName"=some (.ref f):=by refine' F.has_val KX G ?a_36;(case a_36=>k_is)
   have uej:∃f,mg "NoNumber"=some (.ref f):=by refine' F.has_val KX G ?a_37;(case a_37=>k_is)
   have uey:∃f,mg "NoPlace"=some (.ref f):=by refine' F.has_val KX G ?a_38;(case a_38=>k_is)
   have uft:∃f,mg "NoRow"=some (.ref f):=by refine' F.has_val KX G ?a_39;(case a_39=>k_is)
   have ufo:∃f,mg "NoSum"=some (.ref f):=by refine' F.has_val KX G ?a_40;(case a_40=>k_is)
   have uet:∃f,mg "NoThing"=some (.ref f):=by refine' F.has_val KX G ?a_41;(case a_41=>k_is)
   have ufx:∃f,mg "NoWay"=some (.ref f):=by refine' F.has_val KX G ?a_42;(case a_42=>k_is)
   have uex:∃f,mg "TooMany"=some (.ref f):=by refine' F.has_val KX G ?a_43;(case a_43=>k_is)
   have uew:F.ExcCls (L2.KOf KX) mg "NoThing":=by refine' F.has_exc KX G ?a_44 ?q_44;(case a_44=>k_is);(case q_44=>k_exc)
   have he_NoThing:F.ExcI (L2.KOf KX) mg "NoThing":=by refine' F.has_ei KX G ?a_45 ?h1_45 ?h2_45 ?h3_45 ?h4_45 ?h5_45 ?h6_45 ?h7_45 ?h8_45 ?h9_45;(case a_45=>k_is);(case h1_45=>k_is);(case h2_45=>k_is);(case h3_45=>k_is);(case h4_45=>k_is);(case h5_45=>k_is);(case h6_45=>k_is);(case h7_45=>k_is);(case h8_45=>k_is);(case h9_45=>kit_is)
   have hc_NoThing:F.Cat (L2.KOf KX) mg "NoThing" "ShelfError":=by refine' F.has_cat KX G ?a_46 ?b_46 ?h1_46 ?h2_46 ?h3_46 ?h4_46;(case a_46=>k_is);(case b_46=>k_is);(case h1_46=>k_is);(case h2_46=>k_is);(case h3_46=>k_is);(case h4_46=>k_is)
   have hq_NoThing_Changed:F.IsF (L2.KOf KX) mg "NoThing" "Changed" false:=by refine' F.has_is KX G ?a_47 ?b_47 ?q_47;(case a_47=>k_is);(case b_47=>k_is);(case q_47=>kit_is)
   have hq_NoThing_NoBalance:F.IsF (L2.KOf KX) mg "NoThing" "NoBalance" false:=by refine' F.has_is KX G ?a_48 ?b_48 ?q_48;(case a_48=>k_is);(case b_48=>k_is);(case q_48=>kit_is)
   have hq_NoThing_NoMore:F.IsF (L2.KOf KX) mg "NoThing" "NoMore" false:=by refine' F.has_is KX G ?a_49 ?b_49 ?q_49;(case a_49=>k_is);(case b_49=>k_is);(case q_49=>kit_is)
   have hq_NoThing_NoName:F.IsF (L2.KOf KX) mg "NoThing" "NoName" false:=by refine' F.has_is KX G ?a_50 ?b_50 ?q_50;(case a_50=>k_is);(case b_50=>k_is);(case q_50=>kit_is)
   have hq_NoThing_NoNumber:F.IsF (L2.KOf KX) mg "NoThing" "NoNumber" false:=by refine' F.has_is KX G ?a_51 ?b_51 ?q_51;(case a_51=>k_is);(case b_51=>k_is);(case q_51=>kit_is)
   have hq_NoThing_NoPlace:F.IsF (L2.KOf KX) mg "NoThing" "NoPlace" false:=by refine' F.has_is KX G ?a_52 ?b_52 ?q_52;(case a_52=>k_is);(case b_52=>k_is);(case q_52=>kit_is)
   have hq_NoThing_NoRow:F.IsF (L2.KOf KX) mg "NoThing" "NoRow" false:=by refine' F.has_is KX G ?a_53 ?b_53 ?q_53;(case a_53=>k_is);(case b_53=>k_is);(case q_53=>kit_is)
   have hq_NoThing_NoSum:F.IsF (L2.KOf KX) mg "NoThing" "NoSum" false:=by refine' F.has_is KX G ?a_54 ?b_54 ?q_54;(case a_54=>k_is);(case b_54=>k_is);(case q_54=>kit_is)
   have hq_NoThing_NoThing:F.IsF (L2.KOf KX) mg "NoThing" "NoThing" true:=by refine' F.has_is KX G ?a_55 ?b_55 ?q_55;(case a_55=>k_is);(case b_55=>k_is);(case q_55=>kit_is)
   have hq_NoThing_NoWay:F.IsF (L2.KOf KX) mg "NoThing" "NoWay" false:=by refine' F.has_is KX G ?a_56 ?b_56 ?q_56;(case a_56=>k_is);(case b_56=>k_is);(case q_56=>kit_is)
   have hq_NoThing_TooMany:F.IsF (L2.KOf KX) mg "NoThing" "TooMany" false:=by refine' F.has_is KX G ?a_57 ?b_57 ?q_57;(case a_57=>k_is);(case b_57=>k_is);(case q_57=>kit_is)
   have hup:F.UpOk (L2.KOf KX) mg Pg.up:=⟨(F.all_cons (hc_NoThing) F.all_nil),(F.all_cons (he_NoThing) F.all_nil),(F.all_cons ((F.all_cons (F.is_of hq_NoThing_Changed) (F.all_cons (F.is_of hq_NoThing_NoBalance) (F.all_cons (F.is_of hq_NoThing_NoMore) (F.all_cons (F.is_of hq_NoThing_NoName) (F.all_cons (F.is_of hq_NoThing_NoNumber) (F.all_cons (F.is_of hq_NoThing_NoPlace) (F.all_cons (F.is_of hq_NoThing_NoRow) (F.all_cons (F.is_of hq_NoThing_NoSum) (F.all_cons (F.is_of hq_NoThing_NoThing) (F.all_cons (F.is_of hq_NoThing_NoWay) (F.all_cons (F.is_of hq_NoThing_TooMany) F.all_nil)))))))))))) F.all_nil)⟩
   have uck:F.Fld (L2.KOf KX) mg "Wood" "adding":=by refine' F.has_fld KX G ?aC_59 (F.has_cls KX G ?aC_59 ?pg_59 ?hd_59 ?po_59 ?sa_59) ?n_59;(case aC_59=>k_is);(case pg_59=>k_is);(case hd_59=>k_is);(case po_59=>k_is);(case sa_59=>k_is);(case n_59=>k_is)
   have ubh:F.Fld (L2.KOf KX) mg "Wood" "nodes_made":=by refine' F.has_fld KX G ?aC_60 (F.has_cls KX G ?aC_60 ?pg_60 ?hd_60 ?po_60 ?sa_60) ?n_60;(case aC_60=>k_is);(case pg_60=>k_is);(case hd_60=>k_is);(case po_60=>k_is);(case sa_60=>k_is);(case n_60=>k_is)
   have ubr:F.HasMk (L2.KOf KX) mg "Wood" "Wood.__init__" Pg.s_Wood___init__ 1:=by refine' F.has_mk1 KX G ?aC_61 ?mk_61 ?kc_61 ?a_61 ?i_61 ?l_61 ?c_61 ?k_61 ?t_61;(case aC_61=>k_is);(case mk_61=>k_is);(case kc_61=>k_is);(case a_61=>k_is);(case i_61=>k_is);(case l_61=>k_is);(case c_61=>k_is);(case k_61=>k_is);(case t_61=>k_is)
   have ud8:F.HasDef (L2.KOf KX) mg "_law_key" Pg.s__law_key 0:=by refine' F.has_def KX G ?a_62 ?l_62 ?c_62 ?k_62;(case a_62=>k_is);(case l_62=>k_is);(case c_62=>k_is);(case k_62=>k_is)
   have ucl:F.HasDef (L2.KOf KX) mg "check_place" Pg.s_check_place 0:=by refine' F.has_def KX G ?a_63 ?l_63 ?c_63 ?k_63;(case a_63=>k_is);(case l_63=>k_is);(case c_63=>k_is);(case k_63=>k_is)
   have ugb:F.HasDef (L2.KOf KX) mg "size" Pg.s_size 0:=by refine' F.has_def KX G ?a_64 ?l_64 ?c_64 ?k_64;(case a_64=>k_is);(case l_64=>k_is);(case c_64=>k_is);(case k_64=>k_is)
   have uf8:F.HasDef (L2.KOf KX) mg "seen" Pg.s_seen 0:=by refine' F.has_def KX G ?a_65 ?l_65 ?c_65 ?k_65;(case a_65=>k_is);(case l_65=>k_is);(case c_65=>k_is);(case k_65=>k_is)
   have ued:F.HasDef (L2.KOf KX) mg "thing_at" Pg.s_thing_at 0:=by refine' F.has_def KX G ?a_66 ?l_66 ?c_66 ?k_66;(case a_66=>k_is);(case l_66=>k_is);(case c_66=>k_is);(case k_66=>k_is)
   have ugx:F.HasDef (L2.KOf KX) mg "at" Pg.s_at 0:=by refine' F.has_def KX G ?a_67 ?l_67 ?c_67 ?k_67;(case a_67=>k_is);(case l_67=>k_is);(case c_67=>k_is);(case k_67=>k_is)
   have ufa:F.HasDef (L2.KOf KX) mg "by_key" Pg.s_by_key 0:=by refine' F.has_def KX G ?a_68 ?l_68 ?c_68 ?k_68;(case a_68=>k_is);(case l_68=>k_is);(case c_68=>k_is);(case k_68=>k_is)
   have ucr:F.HasDef (L2.KOf KX) mg "is_alike_at" Pg.s_is_alike_at 0:=by refine' F.has_def KX G ?a_69 ?l_69 ?c_69 ?k_69;(case a_69=>k_is);(case l_69=>k_is);(case c_69=>k_is);(case k_69=>k_is)
   have ub9:F.HasDef (L2.KOf KX) mg "count_before" Pg.s_count_before 0:=by refine' F.has_def KX G ?a_70 ?l_70 ?c_70 ?k_70;(case a_70=>k_is);(case l_70=>k_is);(case c_70=>k_is);(case k_70=>k_is)
   have ueb:F.HasDef (L2.KOf KX) mg "place_of" Pg.s_place_of 0:=by refine' F.has_def KX G ?a_71 ?l_71 ?c_71 ?k_71;(case a_71=>k_is);(case l_71=>k_is);(case c_71=>k_is);(case k_71=>k_is)
   have ubn:F.HasDef (L2.KOf KX) mg "place_of_alike" Pg.s_place_of_alike 0:=by refine' F.has_def KX G ?a_72 ?l_72 ?c_72 ?k_72;(case a_72=>k_is);(case l_72=>k_is);(case c_72=>k_is);(case k_72=>k_is)
   have ufb:F.HasDef (L2.KOf KX) mg "sought" Pg.s_sought 0:=by refine' F.has_def KX G ?a_73 ?l_73 ?c_73 ?k_73;(case a_73=>k_is);(case l_73=>k_is);(case c_73=>k_is);(case k_73=>k_is)
   have uef:F.HasDef (L2.KOf KX) mg "value_of" Pg.s_value_of 0:=by refine' F.has_def KX G ?a_74 ?l_74 ?c_74 ?k_74;(case a_74=>k_is);(case l_74=>k_is);(case c_74=>k_is);(case k_74=>k_is)
   have uby:F.HasDef (L2.KOf KX) mg "_law_refusal" Pg.s__law_refusal 0:=by refine' F.has_def KX G ?a_75 ?l_75 ?c_75 ?k_75;(case a_75=>k_is);(case l_75=>k_is);(case c_75=>k_is);(case k_75=>k_is)
   have udu:F.HasDef (L2.KOf KX) mg "_law_same" Pg.s__law_same 0:=by refine' F.has_def KX G ?a_76 ?l_76 ?c_76 ?k_76;(case a_76=>k_is);(case l_76=>k_is);(case c_76=>k_is);(case k_76=>k_is)
   have udd:F.HasDef (L2.KOf KX) mg "_law_asked" Pg.s__law_asked 0:=by refine' F.has_def KX G ?a_77 ?l_77 ?c_77 ?k_77;(case a_77=>k_is);(case l_77=>k_is);(case c_77=>k_is);(case k_77=>k_is)
   have ud7:F.HasDef (L2.KOf KX) mg "_law_cell" Pg.s__law_cell 0:=by refine' F.has_def KX G ?a_78 ?l_78 ?c_78 ?k_78;(case a_78=>k_is);(case l_78=>k_is);(case c_78=>k_is);(case k_78=>k_is)
   have ucz:F.HasDef (L2.KOf KX) mg "_law_thing" Pg.s__law_thing 0:=by refine' F.has_def KX G ?a_79 ?l_79 ?c_79 ?k_79;(case a_79=>k_is);(case l_79=>k_is);(case c_79=>k_is);(case k_79=>k_is)
   have ucw:F.HasDef (L2.KOf KX) mg "_law_value" Pg.s__law_value 0:=by refine' F.has_def KX G ?a_80 ?l_80 ?c_80 ?k_80;(case a_80=>k_is);(case l_80=>k_is);(case c_80=>k_is);(case k_80=>k_is)
   have udc:F.HasDef (L2.KOf KX) mg "_law_pairs" Pg.s__law_pairs 0:=by refine' F.has_def KX G ?a_81 ?l_81 ?c_81 ?k_81;(case a_81=>k_is);(case l_81=>k_is);(case c_81=>k_is);(case k_81=>k_is)
   have ubt:F.HasMth (L2.KOf KX) mg "Wood" "numbered" "Wood.numbered" Pg.s_Wood_numbered:=by refine' F.has_mth KX G ?aC_82 (F.has_cls KX G ?aC_82 ?pg_82 ?hd_82 ?po_82 ?sa_82) ?a_82 ?i_82 ?l_82 ?c_82 ?k_82;(case aC_82=>k_is);(case pg_82=>k_is);(case hd_82=>k_is);(case po_82=>k_is);(case sa_82=>k_is);(case a_82=>k_is);(case i_82=>k_is);(case l_82=>k_is);(case c_82=>k_is);(case k_82=>k_is)
   have uge:F.HasDef (L2.KOf KX) mg "back" Pg.s_back 0:=by refine' F.has_def KX G ?a_83 ?l_83 ?c_83 ?k_83;(case a_83=>k_is);(case l_83=>k_is);(case c_83=>k_is);(case k_83=>k_is)
   have ue9:F.HasDef (L2.KOf KX) mg "height" Pg.s_height 0:=by refine' F.has_def KX G ?a_84 ?l_84 ?c_84 ?k_84;(case a_84=>k_is);(case l_84=>k_is);(case c_84=>k_is);(case k_84=>k_is)
   have ufy:F.HasDef (L2.KOf KX) mg "total" Pg.s_total 0:=by refine' F.has_def KX G ?a_85 ?l_85 ?c_85 ?k_85;(case a_85=>k_is);(case l_85=>k_is);(case c_85=>k_is);(case k_85=>k_is)
   have uci:F.HasMth (L2.KOf KX) mg "Wood" "turned" "Wood.turned" Pg.s_Wood_turned:=by refine' F.has_mth KX G ?aC_86 (F.has_cls KX G ?aC_86 ?pg_86 ?hd_86 ?po_86 ?sa_86) ?a_86 ?i_86 ?l_86 ?c_86 ?k_86;(case aC_86=>k_is);(case pg_86=>k_is);(case hd_86=>k_is);(case po_86=>k_is);(case sa_86=>k_is);(case a_86=>k_is);(case i_86=>k_is);(case l_86=>k_is);(case c_86=>k_is);(case k_86=>k_is)
   have udb:F.HasDef (L2.KOf KX) mg "check_room" Pg.s_check_room 0:=by refine' F.has_def KX G ?a_87 ?l_87 ?c_87 ?k_87;(case a_87=>k_is);(case l_87=>k_is);(case c_87=>k_is);(case k_87=>k_is)
   have ub6:F.HasDef (L2.KOf KX) mg "height_above" Pg.s_height_above 0:=by refine' F.has_def KX G ?a_88 ?l_88 ?c_88 ?k_88;(case a_88=>k_is);(case l_88=>k_is);(case c_88=>k_is);(case k_88=>k_is)
   have uc5:F.HasDef (L2.KOf KX) mg "in_balance" Pg.s_in_balance 0:=by refine' F.has_def KX G ?a_89 ?l_89 ?c_89 ?k_89;(case a_89=>k_is);(case l_89=>k_is);(case c_89=>k_is);(case k_89=>k_is)
   have ucv:F.HasDef (L2.KOf KX) mg "size_above" Pg.s_size_above 0:=by refine' F.has_def KX G ?a_90 ?l_90 ?c_90 ?k_90;(case a_90=>k_is);(case l_90=>k_is);(case c_90=>k_is);(case k_90=>k_is)
   have ub5:F.HasDef (L2.KOf KX) mg "backward_sum" Pg.s_backward_sum 0:=by refine' F.has_def KX G ?a_91 ?l_91 ?c_91 ?k_91;(case a_91=>k_is);(case l_91=>k_is);(case c_91=>k_is);(case k_91=>k_is)
   have ucy:F.HasDef (L2.KOf KX) mg "onward_sum" Pg.s_onward_sum 0:=by refine' F.has_def KX G ?a_92 ?l_92 ?c_92 ?k_92;(case a_92=>k_is);(case l_92=>k_is);(case c_92=>k_is);(case k_92=>k_is)
   have ucx:F.HasDef (L2.KOf KX) mg "sums_above" Pg.s_sums_above 0:=by refine' F.has_def KX G ?a_93 ?l_93 ?c_93 ?k_93;(case a_93=>k_is);(case l_93=>k_is);(case c_93=>k_is);(case k_93=>k_is)
   have ud4:F.HasMth (L2.KOf KX) mg "Wood" "node" "Wood.node" Pg.s_Wood_node:=by refine' F.has_mth KX G ?aC_94 (F.has_cls KX G ?aC_94 ?pg_94 ?hd_94 ?po_94 ?sa_94) ?a_94 ?i_94 ?l_94 ?c_94 ?k_94;(case aC_94=>k_is);(case pg_94=>k_is);(case hd_94=>k_is);(case po_94=>k_is);(case sa_94=>k_is);(case a_94=>k_is);(case i_94=>k_is);(case l_94=>k_is);(case c_94=>k_is);(case k_94=>k_is)
   have ufp:F.HasDef (L2.KOf KX) mg "built" Pg.s_built 0:=by refine' F.has_def KX G ?a_95 ?l_95 ?c_95 ?k_95;(case a_95=>k_is);(case l_95=>k_is);(case c_95=>k_is);(case k_95=>k_is)
   have uev:F.HasDef (L2.KOf KX) mg "make_of" Pg.s_make_of 0:=by refine' F.has_def KX G ?a_96 ?l_96 ?c_96 ?k_96;(case a_96=>k_is);(case l_96=>k_is);(case c_96=>k_is);(case k_96=>k_is)
   have ubs:F.HasDef (L2.KOf KX) mg "check_stretch" Pg.s_check_stretch 0:=by refine' F.has_def KX G ?a_97 ?l_97 ?c_97 ?k_97;(case a_97=>k_is);(case l_97=>k_is);(case c_97=>k_is);(case k_97=>k_is)
   have ufq:F.HasDef (L2.KOf KX) mg "parts" Pg.s_parts 0:=by refine' F.has_def KX G ?a_98 ?l_98 ?c_98 ?k_98;(case a_98=>k_is);(case l_98=>k_is);(case c_98=>k_is);(case k_98=>k_is)
   have ucc:F.HasDef (L2.KOf KX) mg "lifted_left" Pg.s_lifted_left 0:=by refine' F.has_def KX G ?a_99 ?l_99 ?c_99 ?k_99;(case a_99=>k_is);(case l_99=>k_is);(case c_99=>k_is);(case k_99=>k_is)
   have ub3:F.HasDef (L2.KOf KX) mg "lifted_right" Pg.s_lifted_right 0:=by refine' F.has_def KX G ?a_100 ?l_100 ?c_100 ?k_100;(case a_100=>k_is);(case l_100=>k_is);(case c_100=>k_is);(case k_100=>k_is)
   have uee:F.HasDef (L2.KOf KX) mg "balanced" Pg.s_balanced 0:=by refine' F.has_def KX G ?a_101 ?l_101 ?c_101 ?k_101;(case a_101=>k_is);(case l_101=>k_is);(case c_101=>k_is);(case k_101=>k_is)
   have ufi:F.HasDef (L2.KOf KX) mg "joined" Pg.s_joined 0:=by refine' F.has_def KX G ?a_102 ?l_102 ?c_102 ?k_102;(case a_102=>k_is);(case l_102=>k_is);(case c_102=>k_is);(case k_102=>k_is)
   have udt:F.HasDef (L2.KOf KX) mg "cut_ahead" Pg.s_cut_ahead 0:=by refine' F.has_def KX G ?a_103 ?l_103 ?c_103 ?k_103;(case a_103=>k_is);(case l_103=>k_is);(case c_103=>k_is);(case k_103=>k_is)
   have ubv:F.HasDef (L2.KOf KX) mg "laid_together" Pg.s_laid_together 0:=by refine' F.has_def KX G ?a_104 ?l_104 ?c_104 ?k_104;(case a_104=>k_is);(case l_104=>k_is);(case c_104=>k_is);(case k_104=>k_is)
   have udj:F.HasDef (L2.KOf KX) mg "taken_out" Pg.s_taken_out 0:=by refine' F.has_def KX G ?a_105 ?l_105 ?c_105 ?k_105;(case a_105=>k_is);(case l_105=>k_is);(case c_105=>k_is);(case k_105=>k_is)
   have ucn:F.HasDef (L2.KOf KX) mg "turned_part" Pg.s_turned_part 0:=by refine' F.has_def KX G ?a_106 ?l_106 ?c_106 ?k_106;(case a_106=>k_is);(case l_106=>k_is);(case c_106=>k_is);(case k_106=>k_is)
   have uc0:F.HasDef (L2.KOf KX) mg "_law_table" Pg.s__law_table 0:=by refine' F.has_def KX G ?a_107 ?l_107 ?c_107 ?k_107;(case a_107=>k_is);(case l_107=>k_is);(case c_107=>k_is);(case k_107=>k_is)
   have uff:F.HasDef (L2.KOf KX) mg "gather" Pg.s_gather 0:=by refine' F.has_def KX G ?a_108 ?l_108 ?c_108 ?k_108;(case a_108=>k_is);(case l_108=>k_is);(case c_108=>k_is);(case k_108=>k_is)
   have udk:F.HasDef (L2.KOf KX) mg "things_of" Pg.s_things_of 0:=by refine' F.has_def KX G ?a_109 ?l_109 ?c_109 ?k_109;(case a_109=>k_is);(case l_109=>k_is);(case c_109=>k_is);(case k_109=>k_is)
   have ues:F.HasDef (L2.KOf KX) mg "keys_of" Pg.s_keys_of 0:=by refine' F.has_def KX G ?a_110 ?l_110 ?c_110 ?k_110;(case a_110=>k_is);(case l_110=>k_is);(case c_110=>k_is);(case k_110=>k_is)
   have udl:F.HasDef (L2.KOf KX) mg "values_of" Pg.s_values_of 0:=by refine' F.has_def KX G ?a_111 ?l_111 ?c_111 ?k_111;(case a_111=>k_is);(case l_111=>k_is);(case c_111=>k_is);(case k_111=>k_is)
   have ue6:F.HasDef (L2.KOf KX) mg "law" Pg.s_law 0:=by refine' F.has_def KX G ?a_112 ?l_112 ?c_112 ?k_112;(case a_112=>k_is);(case l_112=>k_is);(case c_112=>k_is);(case k_112=>k_is)
   obtain⟨fa',fd,hm,hb,hF⟩:=Pg.law_all (P:=(PySem.Challenge.rw_ownshelf_k23_values_of_keys).prog) (w:=w) (fun base hB=>⟨uc1,ugn,ugk,uc4,ugt,ugi,ugo,uf0,uel,ue0,ugq,ufz,uf4,ugc,ufc,ufg,ugm,ugf,ufj,ucd,uf1,ugj,ufl,ufu,ue8,uf2,uck,ubh,uep,ud0,ue1,ue5,uej,uey,uft,ufo,uet,ufx,uex,uew,hup,hB,ubr,ud8,ucl,ugb,uf8,ued,ugx,ufa,ucr,ub9,ueb,ubn,ufb,uef,uby,udu,udd,ud7,ucz,ucw,udc,ubt,uge,ue9,ufy,uci,udb,ub6,uc5,ucv,ub5,ucy,ucx,ud4,ufp,uev,ubs,ufq,ucc,ub3,uee,ufi,udt,ubv,udj,ucn,uc0,uff,udk,ues,udl,ue6⟩) ue6;have e:=hmg.symm.trans hm;cases e;refine⟨fun i p Q e1 e2=>?_,fd,hb,fun base _ _ hB=>hF base hB⟩
   match i,e1,e2 with
   | 0,e1,e2=>
     cases e1;cases e2;refine' F.has_tab (st:=Pg.s_by_key) KX G ?ta0_114 ?tl0_114 ?tz0_114;(case ta0_114=>k_is);(case tl0_114=>k_is);(case tz0_114=>kernel_rfl)
   | 1,e1,e2=>
     cases e1;cases e2;refine' F.has_tab (st:=Pg.s__law_asked) KX G ?ta1_114 ?tl1_114 ?tz1_114;(case ta1_114=>k_is);(case tl1_114=>k_is);(case tz1_114=>kernel_rfl)
   | 2,e1,e2=>
     cases e1;cases e2;refine' F.has_tab (st:=Pg.s__law_pairs) KX G ?ta2_114 ?tl2_114 ?tz2_114;(case ta2_114=>k_is);(case tl2_114=>k_is);(case tz2_114=>kernel_rfl)
   |i+3,e1,_=>cases e1
