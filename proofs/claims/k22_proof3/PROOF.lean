import PyProof.Rows.All
import Wide.All
import OpenK.AllK
import Wide.FinOn
import Lean
import PyProof.EqAt
import PyProof.EqKinds
import PyProof.TupleCall
import PyProof.DictWalks
import PyProof.ExcAttrAll.ValueError
import PyProof.ExcBaseAll.ValueError
import PyProof.ZipIter
import PyProof.SumWalk
import PyProof.Rows.SortShellK
import PyProof.Rows.SortStr
import PyProof.DictKinds
import PyProof.Rows.CallKwBuiltin
import PySem.Challenge.RW_ownshelf_k22_two_sets
set_option Elab.async false
set_option linter.all false
set_option maxRecDepth 100000
set_option maxHeartbeats 8000000
set_option compiler.extract_closed false
set_option compiler.reuse false
set_option bootstrap.genMatcherCode false
abbrev zFr:=PySem.W.Frag
abbrev zLA:=List (PySem.Str×PySem.Addr)
abbrev zAO:=List (PySem.Addr×PySem.Obj)
abbrev zVP:=PySem.Value->PySem.Shared->Prop
abbrev zMg:=PySem.Str->Option PySem.Value
abbrev z6k:=@List.length_append
abbrev z6l:=@Nat.le_refl
abbrev z6m:=@PySem.wpAny_bind
abbrev z6n:=@List.mem_cons
abbrev z6o:=@List.getElem?_eq_some_iff
abbrev z6p:=@Nat.lt_of_lt_of_le
abbrev z6q:=@List.mem_singleton
abbrev z6r:=@List.mem_cons_of_mem
abbrev z6s:=@List.getElem?_eq_getElem
abbrev z6t:=@List.pairwise_append
abbrev z6u:=@PySem.Heap.get?_push_of_some
abbrev z6v:=@List.size_toArray
abbrev z6w:=@List.mem_cons_self
abbrev z6x:=@List.mem_append_right
abbrev z6y:=@List.getElem?_append_right
abbrev z6z:=@PyProof.Rows.wpS_bind
abbrev z60:=@decide_eq_false
abbrev z61:=@List.append_assoc
abbrev z62:=@List.mem_append
abbrev z63:=@Nat.le_add_right
abbrev z64:=@if_pos
abbrev z65:=@List.map_cons
abbrev z66:=@PyProof.Rows.wpS_pure
abbrev z67:=@Nat.le_trans
abbrev z68:=@decide_eq_true
abbrev z69:=@PySem.Heap.lt_size
abbrev z7a:=@if_neg
abbrev z7b:=@Nat.ne_of_lt
abbrev z7c:=@Bool.false_eq_true
abbrev z7d:=@List.getElem?_append_left
abbrev z7e:=@List.length_take
abbrev z7f:=@List.length_drop
abbrev z7g:=@PySem.wpAny_pure
abbrev z7h:=@List.append_nil
abbrev z7i:=@List.getElem_of_mem
abbrev z7j:=@PySem.Heap.get?_push_size
abbrev z7k:=@Nat.zero_le
abbrev z7l:=@List.mem_of_mem_take
abbrev z7m:=@Array.getElem?_eq_getElem
abbrev z7n:=@List.mem_of_getElem?
abbrev z7o:=@Nat.le_of_ble_eq_true
abbrev z7p:=@List.pairwise_cons
abbrev z7q:=@Array.toList_append
abbrev z7r:=@List.forall_mem_cons
abbrev z7s:=@Option.some.inj
abbrev z7t:=@Array.size_push
abbrev z7u:=@Array.getElem?_toList
abbrev z7v:=@List.all_eq_true
abbrev z7w:=@List.getElem?_set_self
abbrev z7x:=@List.take_of_length_le
abbrev z7y:=@List.mem_append_left
abbrev z7z:=@PySem.sizeLine_eq
abbrev z70:=@List.drop_eq_getElem_cons
abbrev z71:=@decide_eq_decide
abbrev z72:=@List.getElem?_map
abbrev z73:=@Bool.false_ne_true
abbrev z74:=@Int.emod_lt_of_pos
abbrev z75:=@PySem.W.mg_none_of
abbrev z76:=@List.take_append_drop
abbrev z77:=@List.cons_lt_cons_iff
abbrev z78:=@List.length_reverse
abbrev z79:=@PySem.W.kia_one
abbrev z8a:=@PySem.wpAny_truthy_bool
abbrev z8b:=@PyProof.Rows.wpS_forRange
abbrev z8c:=@Nat.lt_of_le_of_lt
abbrev z8d:=@if_false
abbrev z8e:=@Bool.and_eq_true
abbrev z8f:=@if_true
abbrev z8g:=@List.not_lt
abbrev z8h:=@Nat.le_of_lt
abbrev z8i:=@List.drop_of_length_le
abbrev z8j:=@Int.emod_nonneg
abbrev z8k:=@PyProof.Rows.wpS_mono
abbrev z8l:=@List.drop_append_of_le_length
abbrev z8m:=@List.take_append_of_le_length
abbrev z8n:=@List.mem_map_of_mem
abbrev z8o:=@PySem.wpAny_mono
abbrev z8p:=@Nat.lt_or_ge
abbrev z8q:=@List.length_filter_le
abbrev z8r:=@Nat.lt_irrefl
abbrev z8s:=@List.length_map
abbrev z8t:=@PySem.wpAny_Call_Name_kw
abbrev z8u:=@Nat.add_sub_cancel_left
abbrev z8v:=@List.filter_cons_of_neg
abbrev z8w:=@Array.toList_extract
abbrev z8x:=@List.mem_of_mem_drop
abbrev z8y:=@congrArg
abbrev z8z:=@PySem.mem_of_lookup
abbrev z80:=@PySem.Heap.get?_update_ne
abbrev z81:=@Bool.eq_false_iff
abbrev z82:=@List.pairwise_iff_getElem
abbrev z83:=@List.mem_filter
abbrev z84:=@List.cons.injEq
abbrev z85:=@Option.isSome_iff_exists
abbrev z86:=@List.mem_reverse
abbrev z87:=@List.getElem_mem
abbrev z88:=@List.getElem?_set_ne
abbrev z89:=@List.reverse_reverse
abbrev z9a:=@List.pairwise_singleton
abbrev z9b:=@Nat.add_assoc
abbrev z9c:=@List.getElem_take
abbrev z9d:=@List.getElem_drop
abbrev z9e:=@PyProof.Rows.callWith_type1
abbrev z9f:=@List.nodup_cons
abbrev z9g:=@List.of_mem_zip
abbrev z9h:=@Nat.add_lt_add_left
abbrev z9i:=@PySem.PassesOwn.never
abbrev z9j:=@List.Perm.append_right
abbrev z9k:=@List.mem_map
abbrev z9l:=@List.Perm.append_left
abbrev z9m:=@Ne.symm
abbrev z9n:=@List.drop_zero
abbrev z9o:=@PySem.wpAny_passesOwn
abbrev z9p:=@List.getElem?_take_of_lt
abbrev z9q:=@PyProof.Rows.slot_tuple_getitem
abbrev z9r:=@of_decide_eq_true
abbrev z9s:=@Nat.le_antisymm
abbrev z9t:=@Nat.min_eq_left
abbrev z9u:=@Nat.not_lt_zero
abbrev z9v:=@Nat.sub_self
abbrev z9w:=@beq_eq_false_iff_ne
abbrev z9x:=@List.cons.inj
abbrev z9y:=@Bool.not_true
abbrev z9z:=@decide_eq_false_iff_not
abbrev z90:=@List.filter_cons_of_pos
abbrev z91:=@PySem.Heap.size_update
abbrev z92:=@Nat.not_lt
abbrev z93:=@PyProof.Rows.wpS_modify
abbrev z94:=@List.Perm.refl
abbrev z95:=@List.drop_eq_nil_of_le
abbrev z96:=@PySem.W.callWith_K
abbrev z97:=@Nat.add_sub_cancel
abbrev z98:=@List.perm_append_comm
abbrev z99:=@Nat.zero_add
abbrev qaa:=@List.Pairwise.sublist
abbrev qab:=@Nat.add_lt_of_lt_sub'
abbrev qac:=@PySem.wpAny_newObj_type
abbrev qad:=@List.reverse_cons
abbrev qae:=@PySem.W.mg_of
abbrev qaf:=@List.nodup_append
abbrev qag:=@Nat.lt_succ_of_lt
abbrev qah:=@Array.toList_push
abbrev qai:=@Array.toList_reverse
abbrev qaj:=@List.lt_irrefl
abbrev qak:=@Nat.lt_succ_self
abbrev qal:=@List.reverse_append
abbrev qam:=@Nat.add_sub_cancel'
abbrev qan:=@List.flatten_append
abbrev qao:=@List.filter_eq_self
abbrev qap:=@beq_iff_eq
abbrev qaq:=@PySem.F.args_tuple_add_2
abbrev qar:=@List.map_map
abbrev qas:=@PySem.F.entry_tuple_add
abbrev qat:=@List.length_set
abbrev qau:=@List.forIn_cons
abbrev qav:=@PySem.F.plainAttrs_list
abbrev qaw:=@List.map_append
abbrev qax:=@PySem.F.slot_tuple_add
abbrev qay:=@PySem.Heap.get?_update_other
abbrev qaz:=@List.flatten_singleton
abbrev qa0:=@List.take_sublist
abbrev qa1:=@List.pairwise_map
abbrev qa2:=@Nat.le_of_lt_succ
abbrev qa3:=@Array.size_append
abbrev qa4:=@List.drop_drop
abbrev qa5:=@PySem.codeAny_mono
abbrev qa6:=@List.set_append_right
abbrev qa7:=@Nat.succ.inj
abbrev qa8:=@Nat.max_eq_right
abbrev qa9:=@List.le_antisymm
abbrev qba:=@PySem.Heap.get?_none_of_le
abbrev qbb:=@PySem.wpAny_execs_nil
abbrev qbc:=@PySem.W.plainGet_of
abbrev qbd:=@PyProof.Rows.wpS_get
abbrev qbe:=@Nat.add_le_add_left
abbrev qbf:=@Bool.eq_iff_iff
abbrev qbg:=@List.length_pos_iff
abbrev qbh:=@Array.toList_setIfInBounds
abbrev qbi:=@List.takeWhile_cons_of_pos
abbrev qbj:=@List.takeWhile_cons_of_neg
abbrev qbk:=@List.dropWhile_cons_of_pos
abbrev qbl:=@List.dropWhile_cons_of_neg
abbrev qbm:=@PySem.tupleKind_room_in1
abbrev qbn:=@List.getElem?_drop
abbrev qbo:=@List.getElem?_take
abbrev qbp:=@PyProof.Rows.listItems_at
abbrev qbq:=@List.filter_append
abbrev qbr:=@PySem.Heap.size_push
abbrev qbs:=@List.drop_left
abbrev qbt:=@List.take_left
abbrev qbu:=@Nat.add_le_add
abbrev qbv:=@PySem.W.kitx_list
abbrev qbw:=@PySem.F.slot_list_insert
abbrev qbx:=@Array.size_setIfInBounds
abbrev qby:=@Nat.sub_pos_of_lt
abbrev qbz:=@PyProof.Rows.size_push'
abbrev qb0:=@List.length_filterMap_le
abbrev qb1:=@Nat.le_succ
abbrev qb2:=@Bool.and_true
abbrev qb3:=@List.getElem_inj
abbrev qb4:=@Array.toList_inj
abbrev qb5:=@Nat.succ_le_succ
abbrev qb6:=@PySem.concat_meets
abbrev qb7:=@Nat.min_le_left
abbrev qb8:=@Int.ofNat_lt
abbrev qb9:=@Int.add_zero
abbrev qca:=@Bool.not_false
abbrev qcb:=@List.take_take
abbrev qcc:=@Nat.sub_le
noncomputable section
namespace L2
open PySem PySem.Spec PyProof.Rows
abbrev Key:=Sum Int Str
def zmh:Key->Value->Bool
 | .inl k,v=>Value.isInt k v
 | .inr x,v=>Value.isStrOf x v
def z54(w:World):Key->Int
 | .inl k=>hashInt k
 | .inr x=>hashStr w x
theorem jn:∀{k:Key}{v:Value},zmh k v=true->(∃i t,k=Sum.inl i/\v=Value.int i t)\/(∃x t,k=Sum.inr x/\v=Value.str x t)
 | .inl i,v,h=>by obtain⟨t,e⟩:=Value.isInt_shape (k:=i) (v:=v) h;exact .inl ⟨i,t,rfl,e⟩
 | .inr x,v,h=>by obtain⟨t,e⟩:=Value.isStrOf_shape (x:=x) (v:=v) h;exact .inr ⟨x,t,rfl,e⟩
theorem zpe(i:Int)(t:Tok):zmh (.inl i) (.int i t)=true:=by simp[zmh,Value.isInt]
theorem zpd(x:Str)(t:Tok):zmh (.inr x) (.str x t)=true:=by simp[zmh,Value.isStrOf]
theorem zz0(a b:Int):decide ((Sum.inl a:Key)=Sum.inl b)=(a==b):=by
 by_cases e:a=b
 · subst e;simp
 · have h:¬ (Sum.inl a:Key)=Sum.inl b:=fun q=>e (Sum.inl.inj q);rw[z60 h];exact(z9w.mpr e).symm
theorem zzw(a b:Str):decide ((Sum.inr a:Key)=Sum.inr b)=decide (a=b):=by
 by_cases e:a=b
 · subst e;simp
 · have h:¬ (Sum.inr a:Key)=Sum.inr b:=fun q=>e (Sum.inr.inj q);rw[z60 h,z60 e]
theorem zzz(a:Int)(b:Str):decide ((Sum.inl a:Key)=Sum.inr b)=false:=z60 (fun q=>nomatch q)
theorem zzx(a:Str)(b:Int):decide ((Sum.inr a:Key)=Sum.inl b)=false:=z60 (fun q=>nomatch q)
def x9(prog:Program)(w:World):PySem.KeyKind prog w Key where
 is:=zmh
 hash:=z54 w
 inj:=fun v a b ha hb=>by
   rcases jn ha with⟨i,t,rfl,rfl⟩ | ⟨x,t,rfl,rfl⟩
   · rcases jn hb with⟨j,u,rfl,e⟩ | ⟨y,u,rfl,e⟩
     · injection e with e1 _;rw[e1]
     · exact nomatch e
   · rcases jn hb with⟨j,u,rfl,e⟩ | ⟨y,u,rfl,e⟩
     · exact nomatch e
     · injection e with e1 _;rw[e1]
 byValue:=fun k v h=>by rcases jn h with⟨i,t,rfl,rfl⟩ | ⟨x,t,rfl,rfl⟩<;>rfl
 pyHash:=fun hv h=>by
   rcases jn hv with⟨i,t,rfl,rfl⟩ | ⟨x,t,rfl,rfl⟩
   · exact wpAny_pyHash_int h
   · exact wpAny_pyHash_str h
 eqBool:=fun hu hv h=>by
   rcases jn hu with⟨i,t,rfl,rfl⟩ | ⟨x,t,rfl,rfl⟩
   · rcases jn hv with⟨j,u,rfl,rfl⟩ | ⟨y,u,rfl,rfl⟩
     · rw[zz0]at h;exact wpAny_eqBool_int h
     · rw[zzz]at h;exact SeqAt.EqAt.int_str i t y u _ _ _ _ h
   · rcases jn hv with⟨j,u,rfl,rfl⟩ | ⟨y,u,rfl,rfl⟩
     · rw[zzx]at h;exact SeqAt.EqAt.str_int x t j u _ _ _ _ h
     · rw[zzw]at h;exact wpAny_eqBool_str h
 «strs»:=fun k x t v h=>by
   rcases jn h with⟨i,u,rfl,e⟩ | ⟨y,u,rfl,e⟩
   · exact nomatch e
   · injection e with e1 _;subst e1;cases v<;>rfl
theorem zi3(prog:Program)(w:World)(i:Int)(t:Tok):(x9 prog w).is (.inl i) (.int i t)=true:=zpe i t
theorem zi2(prog:Program)(w:World)(x:Str)(t:Tok):(x9 prog w).is (.inr x) (.str x t)=true:=zpd x t
inductive V where
 |non | bl (b:Bool) | int (i:Int) | str (x:Str) | byt (b:Array UInt8) | flt (b:UInt64) | ref (a:Addr) | ty (n:String)
 deriving DecidableEq
def RelV:V->Value->Prop
 | .non,u=>u=Value.none
 | .bl b,u=>u=Value.bool b
 | .int i,u=>∃t,u=Value.int i t
 | .str x,u=>∃t,u=Value.str x t
 | .byt b,u=>∃t,u=Value.bytes b t
 | .flt b,u=>∃t,u=Value.float b t
 | .ref a,u=>u=Value.ref a
 | .ty n,u=>u=Value.type n
abbrev Vals:List V->List Value->Prop:=Paired RelV
theorem Vals.length{xs:List V}{us:List Value}(r:Vals xs us):xs.length=us.length:=Paired.length r
theorem Vals.get:∀{xs:List V}{us:List Value}{i:Nat}{x:V},Vals xs us->xs[i]? = some x->∃u,us[i]? = some u/\RelV x u
 |_,_,_,_,.nil,e=>by simp at e
 |_,_,0,_,.cons r _,e=>by simp at e;subst e;exact⟨_,rfl,r⟩
 | _,_,i+1,x,.cons _ t,e=>by obtain⟨u,h1,h2⟩:=Vals.get (i:=i) (x:=x) t (by simpa using e);exact⟨u,by simpa using h1,h2⟩
theorem Vals.set{x:V}{u:Value}(r:RelV x u):∀{xs:List V}{us:List Value} (i:Nat),Vals xs us->Vals (xs.set i x) (us.set i u)
 |_,_,_,.nil=>.nil
 |_,_,0,.cons _ t=>.cons r t
 |_,_,i+1,.cons q t=>.cons q (Vals.set r i t)
theorem Vals.append:∀{xs ys:List V}{us ws:List Value},Vals xs us->Vals ys ws->Vals (xs++ys) (us++ws)
 |_,_,_,_,.nil,s=>s
 |_,_,_,_,.cons r t,s=>.cons r (Vals.append t s)
theorem Vals.take:∀{xs:List V}{us:List Value} (n:Nat),Vals xs us->Vals (xs.take n) (us.take n)
 |_,_,0,_=>.nil
 |_,_,_+1,.nil=>.nil
 |_,_,n+1,.cons r t=>.cons r (Vals.take n t)
theorem Vals.drop:∀{xs:List V}{us:List Value} (n:Nat),Vals xs us->Vals (xs.drop n) (us.drop n)
 |_,_,0,r=>r
 |_,_,_+1,.nil=>.nil
 |_,_,n+1,.cons _ t=>Vals.drop n t
def RelO:Option V->Option Value->Prop
 |some v,some u=>RelV v u
 |none,none=>True
 |_,_=>False
def KV{κ:Type}:List (κ×V)->List (κ×Value)->Prop:=Paired fun(p:κ×V) (q:κ×Value)=>p.1=q.1/\RelV p.2 q.2
def kV:Key->V
 | .inl i=>.int i
 | .inr x=>.str x
inductive HO where
   |lst (xs:List V)
   |tup (xs:List V)
   |dK (kvs:List (Key×V)) | dT (kvs:List (List Key×V))
   |set (S:Int->Bool) (n:Nat)
   |ins (C dx:Addr) (fs:List (Str×V))
   |own (x:Addr)
   |xd (fs:List (Str×V))
   |met (f x:Addr)
   |rng (lo hi:Int)
   |frz (o:Obj) (u:HO)
   |tbl (ps:Array Value)
   |ext (φ:Heap->Prop)
abbrev Hp:=Addr->Option HO
def upd(H:Hp)(a:Addr)(o:HO):Hp:=fun b=>if b=a then some o else H b
theorem qf{H:Hp}{a:Addr}{o:HO}:upd H a o a=some o:=by unfold upd;rw[z64 rfl]
theorem qd{H:Hp}{a b:Addr}{o:HO}(h:b≠a):upd H a o b=H b:=by unfold upd;rw[z7a h]
theorem ne_of{H:Hp}{a b:Addr}{o u:HO}(h:H a=some o)(h':H b=some u)(d:o≠u):a≠b:=by intro e;subst e;rw[h]at h';exact d (z7s h')
theorem qx{H:Hp}{a b:Addr}{o:HO}(h:H a=some o)(h':H b=none):a≠b:=by intro e;subst e;rw[h]at h';cases h'
section
variable (P:Program) (w:World)
def ObjOk(H:Hp)(h:Heap)(a:Addr):HO->Prop
 | .lst xs=>xs.length<=sizeLine/\∃(its:List Value) (n:Nat),Vals xs its/\h.get? a=some { cls:=.type "list",data:=.seq its.toArray n }
 | .tup xs=>xs.length<=sizeLine/\∃its:List Value,Vals xs its/\IsTup h a its.toArray
 | .dK kvs=>kvs.length<=sizeLine/\(a==sysModules)=false/\∃vs,KV kvs vs/\h.DictOf (x9 P w) a vs
 | .dT kvs=>kvs.length<=sizeLine/\(a==sysModules)=false/\∃xs:List (List Key×Addr×Value),
     Paired (fun(p:List Key×V) (q:List Key×Addr×Value)=>p.1=q.1/\H q.2.1=some (.tup (p.1.map kV))/\RelV p.2 q.2.2) kvs xs /\
     ∃o es ep,h.get? a=some o/\o.ExactDict/\o.data=.dict es ep/\es.toList=xs.map (entryOfKey (tupleKind (x9 P w)))/\(xs.map (·.1)).Nodup
 | .set S n=>h.SetOf (intKind P w) a S n
 | .ins C dx fs=>H dx=some (.own a)/\fs.length<=1000/\dx≠a/\h.get? a=some (PySem.W.instObj C dx) /\
     ∃mA,h.Ns1 dx mA/\(∀f,RelO (fs.lookup f) (mA f))/\PySem.Within mA (fs.map (·.1))
 | .own _=>∃o,h.get? a=some o
 | .xd fs=>∃mA,h.Ns1 a mA/\∀f,RelO (fs.lookup f) (mA f)
 | .rng lo hi=>∃t u v,h.get? a=some { cls:=.type "range",data:=.fields #[.int lo t,.int hi u,.int 1 v] }
 | .frz o u=>h.get? a=some o/\ObjOk H h a u
 | .tbl ps=>h.get? a=some { cls:=.none,data:=.fields ps }
 | .met f x=>h.get? a=some (PySem.W.methodObj (.ref f) (.ref x))
 | .ext φ=>φ h/\(∃o,h.get? a=some o)/\∀h1 h2:Heap,φ h1->(∀o,h1.get? a=some o->h2.get? a=some o)->φ h2
def HOk(H:Hp)(h:Heap):Prop:=∀a o,H a=some o->ObjOk P w H h a o
end
section
variable {P:Program}{w:World}{H H':Hp}{h h':Heap}{a:Addr}{o:HO}
theorem ObjOk.lt(x:ObjOk P w H h a o):a<h.objs.size:=by
 cases o with
 |lst xs=>obtain⟨_,_,_,_,e⟩:=x;exact z69 e
 |tup xs=>obtain⟨_,_,_,p⟩:=x;exact p.lt
 |dK kvs=>obtain⟨_,_,_,_,o,_,_,e,_⟩:=x;exact z69 e
 |dT kvs=>obtain⟨_,_,_,_,o,_,_,e,_⟩:=x;exact z69 e
 |set S n=>obtain⟨o,_,_,_,e,_⟩:=x;exact z69 e
 |ins C dx fs=>obtain⟨_,_,_,e,_⟩:=x;exact z69 e
 |own y=>obtain⟨_,e⟩:=x;exact z69 e
 |xd fs=>obtain⟨_,⟨_,_,_,e,_⟩,_⟩:=x;exact z69 e
 |rng lo hi=>obtain⟨_,_,_,e⟩:=x;exact z69 e
 |frz ob u=>obtain⟨e,_⟩:=x;exact z69 e
 |tbl ps=>exact z69 (show h.get? a=some _ from x)
 |met f y=>exact z69 (show h.get? a=some _ from x)
 |ext φ=>obtain⟨_,⟨_,e⟩,_⟩:=x;exact z69 e
theorem Paired.mapP{α β:Type}{F G:α->β->Prop}:∀{l₁:List α}{l₂:List β},Paired F l₁ l₂->(∀a b,F a b->G a b)->Paired G l₁ l₂
 |_,_,.nil,_=>.nil
 |_,_,.cons r t,f=>.cons (f _ _ r) (Paired.mapP t f)
theorem ObjOk.stay(x:ObjOk P w H h a o)(k:∀b u,(b=a\/H b=some (.own a))->h.get? b=some u->h'.get? b=some u)
   (ho:∀b,H b=some (.own a)->H' b=some (.own a)) (ht:∀b xs,H b=some (.tup xs)->H' b=some (.tup xs)):ObjOk P w H' h' a o:=by
 induction o with
 |lst xs=>obtain⟨z,its,n,r,e⟩:=x;exact⟨z,its,n,r,k _ _ (.inl rfl) e⟩
 |tup xs=>obtain⟨z,its,r,ob,e,c⟩:=x;exact⟨z,its,r,ob,k _ _ (.inl rfl) e,c⟩
 |dK kvs=>obtain⟨z,y,vs,r,ob,es,ep,e,c⟩:=x;exact⟨z,y,vs,r,ob,es,ep,k _ _ (.inl rfl) e,c⟩
 | dT kvs=>
   obtain⟨z,y,xs,r,ob,es,ep,e,c⟩:=x;exact⟨z,y,xs,Paired.mapP r fun p q z=>⟨z.1,ht _ _ z.2.1,z.2.2⟩,ob,es,ep,k _ _ (.inl rfl) e,c⟩
 |set S n=>obtain⟨ob,es,ep,t,e,c⟩:=x;exact⟨ob,es,ep,t,k _ _ (.inl rfl) e,c⟩
 | ins C dx fs=>
   obtain⟨d,z,ne,e,mA,⟨od,es,ep,e2,c⟩,r⟩:=x;exact⟨ho _ d,z,ne,k _ _ (.inl rfl) e,mA,⟨od,es,ep,k _ _ (.inr d) e2,c⟩,r⟩
 |own y=>obtain⟨ob,e⟩:=x;exact⟨ob,k _ _ (.inl rfl) e⟩
 |xd fs=>obtain⟨mA,⟨od,es,ep,e,c⟩,r⟩:=x;exact⟨mA,⟨od,es,ep,k _ _ (.inl rfl) e,c⟩,r⟩
 |rng lo hi=>obtain⟨t,u,v,e⟩:=x;exact⟨t,u,v,k _ _ (.inl rfl) e⟩
 |frz ob u ih=>obtain⟨e,q⟩:=x;exact⟨k _ _ (.inl rfl) e,ih q⟩
 | tbl ps=>
   have e:h.get? a=some { cls:=.none,data:=.fields ps }:=x;show h'.get? a=some { cls:=.none,data:=.fields ps };exact k a _ (.inl rfl) e
 | met f y=>
   have e:h.get? a=some (PySem.W.methodObj (.ref f) (.ref y)):=x;show h'.get? a=some (PySem.W.methodObj (.ref f) (.ref y));exact k a _ (.inl rfl) e
 |ext φ=>obtain⟨p,⟨o,e⟩,st⟩:=x;exact⟨st _ _ p fun o q=>k _ _ (.inl rfl) q,⟨o,k _ _ (.inl rfl) e⟩,st⟩
theorem HOk.lt(x:HOk P w H h)(e:H a=some o):a<h.objs.size:=(x a o e).lt
theorem HOk.fresh(x:HOk P w H h)(e:h.objs.size<=a):H a=none:=by
 cases q:H a with
 |none=>rfl
 |some u=>exact absurd (z6p (x.lt q) e) (z8r _)
theorem HOk.kept(x:HOk P w H h)(k:∀b u,h.get? b=some u->h'.get? b=some u):HOk P w H h':=fun a o e=>
 (x a o e).stay (fun b u _ q=>k b u q) (fun _ q=>q) fun _ _ q=>q
theorem HOk.laid(x:HOk P w H h)(k:∀b u,h.get? b=some u->h'.get? b=some u)(hp:h.objs.size<=a)(new:ObjOk P w (upd H a o) h' a o):HOk P w (upd H a o) h':=fun b u e=>by
 have hn:=x.fresh hp;by_cases hb:b=a
 · subst hb;rw[qf]at e;cases e;exact new
 · rw[qd hb]at e;exact(x b u e).stay (fun c v _ q=>k c v q) (fun c q=>by rw[qd (qx q hn)];exact q) fun c xs q=>by rw[qd (qx q hn)];exact q
end
def Rd(H:Hp)(a:Addr)(u:HO):Prop:=H a=some u\/∃o,H a=some (.frz o u)
theorem Rd.ok{P:Program}{w:World}{H:Hp}{h:Heap}{a:Addr}{u:HO}(r:Rd H a u)(x:HOk P w H h):ObjOk P w H h a u:=by
 rcases r with r | ⟨o,r⟩
 · exact x a u r
 · obtain⟨_,q⟩:=x a _ r;exact q
def Mut:Option HO->Prop
 |some (.lst _)=>True
 |some (.dK _)=>True
 |some (.dT _)=>True
 |some (.set _ _)=>True
 |some (.ins _ _ _)=>True
 |some (.ext _)=>True
 |_=>False
section
variable {P:Program}{w:World}{H:Hp}{h h':Heap}{x e:Addr}{o':HO}
theorem HOk.write(ok:HOk P w H h)(mu:Mut (H x))(he:e=x\/H e=some (.own x))(k:∀b u,b≠e->h.get? b=some u->h'.get? b=some u)(heo:∃u,h'.get? e=some u)
   (new:ObjOk P w (upd H x o') h' x o'):HOk P w (upd H x o') h':=fun b u q=>by
 have nown:∀c y,H c=some (.own y)->c≠x:=fun c y r z=>by subst z;rw[r]at mu;exact mu
 have ntup:∀c xs,H c=some (.tup xs)->c≠x:=fun c xs r z=>by subst z;rw[r]at mu;exact mu
 by_cases hb:b=x
 · subst hb;rw[qf]at q;cases q;exact new
 · rw[qd hb]at q;by_cases hbe:b=e
   · have q':H b=some (.own x):=by
       rcases he with z | z
       · exact absurd (hbe.trans z) hb
       · rw[hbe];exact z
     rw[q]at q';cases q';obtain⟨v,hv⟩:=heo;exact⟨v,by rw[hbe];exact hv⟩
   · refine(ok b u q).stay (fun c v hc r=>k c v ?_ r) (fun c r=>by rw[qd (nown c b r)];exact r) fun c xs r=>by rw[qd (ntup c xs r)];exact r
     rcases hc with rfl | hc
     · exact hbe
     · rintro rfl;rcases he with z | z
       · exact nown c b hc z
       · rw[hc]at z;cases z;exact hb rfl
end
structure Un (fs ex:List Addr) (H H':Hp) (h h':Heap):Prop where
 keep:∀b o,h.get? b=some o->H b=none->b∉fs->b∉ex->h'.get? b=some o
 slot:∀b o,h.get? b=some o->H b=none->b∈fs->b∉ex->∃sl,h'.get? b=some { o with slots:=sl }
 free:∀b o,h.get? b=some o->H b=none->b∉ex->H' b=none
 there:∀b o,h.get? b=some o->b∉ex->∃o',h'.get? b=some o'
 tups:∀b xs,H b=some (.tup xs)->H' b=some (.tup xs)
 frzs:∀b o u,H b=some (.frz o u)->H' b=some (.frz o u)
 tbls:∀b ps,H b=some (.tbl ps)->∃more,H' b=some (.tbl (ps++more))
section
variable {fs fs' ex ex':List Addr}{H H1 H2:Hp}{h h1 h2 h':Heap}{a x e:Addr}{o:HO}
theorem Un.any(u:Un fs ex H H1 h h1){b:Addr}{ob:Obj}(q:h.get? b=some ob)(n:H b=none)(hx:b∉ex):∃sl,h1.get? b=some { ob with slots:=sl }:=by
 by_cases hb:b∈fs
 · exact u.slot b ob q n hb hx
 · exact⟨ob.slots,u.keep b ob q n hb hx⟩
theorem Un.kept(k:∀b u,h.get? b=some u->h'.get? b=some u):Un fs ex H H h h' :=
 ⟨fun b ob q _ _ _=>k b ob q,fun b ob q _ _ _=>⟨ob.slots,k b ob q⟩,fun _ _ _ n _=>n,fun b ob q _=>⟨ob,k b ob q⟩,fun _ _ q=>q,fun _ _ _ q=>q,fun _ ps q=>⟨#[],by rw[q];simp⟩⟩
theorem Un.refl:Un fs ex H H h h:=Un.kept fun _ _ q=>q
theorem Un.laid(k:∀b u,h.get? b=some u->h'.get? b=some u)(hp:h.objs.size<=a)(hn:H a=none):Un fs ex H (upd H a o) h h' where
 keep:=fun b u q _ _ _=>k b u q
 slot:=fun b u q _ _ _=>⟨u.slots,k b u q⟩
 free:=fun b u q n _=>by rw[qd (z7b (z6p (z69 q) hp))];exact n
 there:=fun b u q _=>⟨u,k b u q⟩
 tups:=fun b xs q=>by rw[qd (qx q hn)];exact q
 frzs:=fun b u xs q=>by rw[qd (qx q hn)];exact q
 tbls:=fun b ps q=>⟨#[],by rw[qd (qx q hn),q];simp⟩
theorem Un.write(mu:Mut (H x))(he:e=x\/H e=some (.own x))(k:∀b u,b≠e->h.get? b=some u->h'.get? b=some u)(heo:∃u,h'.get? e=some u):Un fs ex H (upd H x o) h h':=by
 have hx:∀b,H b=none->b≠x:=fun b n z=>by subst z;rw[n]at mu;exact mu
 have hb:∀b,H b=none->b≠e:=fun b n z=>by
   subst z;rcases he with r | r
   · exact hx b n r
   · rw[n]at r;cases r
 have hm:∀b u,H b=some u->¬ Mut (some u)->b≠x:=fun b u q nm z=>by subst z;rw[q]at mu;exact nm mu
 refine⟨fun b u q n _ _=>k b u (hb b n) q,fun b u q n _ _=>⟨u.slots,k b u (hb b n) q⟩,fun b u q n _=>by rw[qd (hx b n)];exact n,fun b u q _=>?_,
   fun b xs q=>by rw[qd (hm b _ q fun z=>z)];exact q,fun b u xs q=>by rw[qd (hm b _ q fun z=>z)];exact q,fun b ps q=>⟨#[],by rw[qd (hm b _ q fun z=>z),q];simp⟩⟩
 by_cases hbe:b=e
 · subst hbe;exact heo
 · exact⟨u,k b u hbe q⟩
end
def trk(h:Heap)(H:Hp):List Addr:=(List.range h.objs.size).filter fun a=>(H a).isSome
def zsd(h:Heap)(H:Hp):Heap:=PySem.W.hideAll h (trk h H)
theorem zpp(h:Heap)(H:Hp):(zsd h H).objs.size=h.objs.size:=PySem.W.hideAll_size _ _
theorem zgd{h:Heap}{H:Hp}{b:Addr}{o:Obj}(e:h.get? b=some o)(n:H b=none):(zsd h H).get? b=some o :=
 PySem.W.hideAll_get _ e fun hm=>by have q:(H b).isSome=true:=(z83.mp hm).2;rw[n]at q;simp at q
theorem zvw{h:Heap}{H:Hp}{b:Addr}{o:Obj}(e:(zsd h H).get? b=some o):h.get? b=some o/\H b=none:=by
 have e':h.get? b=some o:=PySem.W.of_hideAll (trk h H) e;refine⟨e',?_⟩;cases q:H b with
 |none=>rfl
 | some x=>
   have hm:b∈trk h H:=z83.mpr ⟨List.mem_range.mpr (z69 e'),by simp[q]⟩;have z:(zsd h H).get? b=none:=PySem.W.hideAll_none (trk h H) hm;rw[z]at e;cases e
def zw6(g h:Heap)(L:Addr):zAO:=(List.range h.objs.size).filterMap fun a=>if a=L\/(g.get? a).isSome=true then none else (h.get? a).map fun o=>(a,o)
def rest(g h:Heap)(L d:Addr):zAO:=(zw6 g h L).filter fun p=>decide (p.1≠d)
structure Mod (K:zFr) (mg:zMg) (base:Heap):Prop where
 kin:K.In base
 glob:base.Ns mainGlobals mg
 blt:∃mb,base.Ns builtinsNs mb/\∀x:Str,x≠"__name__"->mb x=bootBuiltins x
 nolimit:base.NoLimit
structure Cx where
 prog:Program
 w:World
 K:zFr
 mg:zMg
 base:Heap
 A:Around
 N:List Str
 s₀:Shared
 H₀:Hp
 env:Env
 outer:List Env
 stack:List Env
 ex:List Addr
 fn:Str->Bool
 calm:Bool
 pn:zAO
 xe:zVP
def frs(l:List Env):List Addr:=l.filterMap (·.frame)
abbrev Cx.fs(X:Cx):List Addr:=frs X.outer
def Vis(sc:Scope)(x:Str):Prop:=sc.names.lookup x=some .local\/sc.names.lookup x=some .cell\/sc.names.lookup x=some .free
def Loc(sc:Scope)(x:Str):Prop:=sc.names.lookup x=some .local\/sc.names.lookup x=some .cell
def z6h(env:Env)(h:Heap)(m:zMg)(x:Str)(u:Value):Prop :=
 (env.kindOf x=some .local/\m x=some u)\/((env.kindOf x=some .cell\/env.kindOf x=some .free)/\∃c,env.cells.lookup x=some c/\h.IsCell c (some u))
structure Cx.Ok (X:Cx):Prop where
 mod:Mod X.K X.mg X.base
 kind:X.env.scope.kind=.function
 glob:X.env.globals=mainGlobals
 blt:X.env.builtins=builtinsNs
 above:X.s₀.heap.objs.size<=X.env.locals
 inj:∀x y c,X.env.cells.lookup x=some c->X.env.cells.lookup y=some c->x=y
 has:∀x,(X.env.kindOf x=some .cell\/X.env.kindOf x=some .free)->∃c,X.env.cells.lookup x=some c
 cab:∀x c,X.fn x=true->X.env.cells.lookup x=some c->X.s₀.heap.objs.size<=c
 hd:X.calm=true->X.A.handled=none
 frames:X.A.frames=some X.stack
 stk:X.stack=X.outer\/(X.stack=X.env::X.outer/\X.env.frame=some X.env.locals)
 exf:∀b∈X.ex,b≠X.env.locals/\∀x c,X.env.cells.lookup x=some c->c≠b
 bs:∀b o,X.base.get? b=some o->X.s₀.heap.get? b=some o/\X.H₀ b=none
 bsz:X.base.objs.size<=X.s₀.heap.objs.size
 noex:∀b o,X.base.get? b=some o->b∉X.ex
 exfs:∀b∈X.ex,b∉X.fs
 funs:X.s₀.heap.FunFrames X.base X.outer
 frf:∀b∈X.fs,X.H₀ b=none
structure Inv (X:Cx) (pins:zAO) (σ:List (Option V)) (H:Hp) (s:Shared):Prop where
 ok:X.Ok
 os:s.os=X.s₀.os
 bare:AllBare s.gens
 base:Un X.fs X.ex X.H₀ H X.s₀.heap s.heap
 loc:∃m,s.heap.Ns X.env.locals m/\∀(i:Nat) (x:Str) (v:V),X.N[i]? = some x->σ[i]? = some (some v)->Vis X.env.scope x->∃u,RelV v u/\z6h X.env s.heap m x u
 cell:∀x c,X.env.cells.lookup x=some c->∃v,s.heap.IsCell c v
 free:H X.env.locals=none
 freeC:∀x c,X.env.cells.lookup x=some c->H c=none
 pin:∀p∈X.pn++pins,s.heap.get? p.1=some p.2/\H p.1=none/\p.1≠X.env.locals/\p.1∉X.fs/\∀v,p.2.data≠.cell v
 hok:HOk X.prog X.w H s.heap
 len:σ.length=X.N.length
section
variable {X:Cx}{pins:zAO}{σ:List (Option V)}{H H':Hp}{s:Shared}{h':Heap}
theorem Cx.Ok.nofr(ok:X.Ok){b:Addr}{o:Obj}(e:X.base.get? b=some o):b∉X.fs:=fun hb=>by have:=(ok.funs.mem hb).1;rw[e]at this;cases this
theorem Inv.bs(I:Inv X pins σ H s):∀b o,X.base.get? b=some o->s.heap.get? b=some o/\H b=none:=fun b o e=>
 ⟨I.base.keep b o (I.ok.bs b o e).1 (I.ok.bs b o e).2 (I.ok.nofr e) (I.ok.noex b o e),I.base.free b o (I.ok.bs b o e).1 (I.ok.bs b o e).2 (I.ok.noex b o e)⟩
theorem Inv.bk(I:Inv X pins σ H s):∀b o,X.base.get? b=some o->s.heap.get? b=some o:=fun b o e=>(I.bs b o e).1
theorem Inv.mod(I:Inv X pins σ H s):Mod X.K X.mg X.base:=I.ok.mod
theorem Inv.kIn(I:Inv X pins σ H s):X.K.In s.heap:=I.ok.mod.kin.keeps I.bk
theorem Inv.lt(I:Inv X pins σ H s):X.env.locals<s.heap.objs.size:=let⟨_,hn,_⟩:=I.loc;hn.lt
theorem Inv.sz(I:Inv X pins σ H s):X.s₀.heap.objs.size<=s.heap.objs.size:=z67 I.ok.above (z8h I.lt)
theorem Inv.nofs(I:Inv X pins σ H s){a:Addr}(h:s.heap.objs.size<=a):a∉X.fs:=fun hb=>by obtain⟨_,o,ho,_⟩:=I.ok.funs.mem hb;exact absurd (z6p (z69 ho) (z67 I.sz h)) (z8r _)
theorem Inv.cne(I:Inv X pins σ H s):∀x c,X.env.cells.lookup x=some c->c≠X.env.locals:=fun x c e z=>by obtain⟨v,o,ho,hd⟩:=I.cell x c e;obtain⟨m,⟨o',es,ep,ho',hd',_⟩,_⟩:=I.loc;rw[z,ho']at ho;cases ho;rw[hd']at hd;cases hd
theorem Inv.funs(I:Inv X pins σ H s):s.heap.FunFrames X.base X.outer:=by
 have all:∀(l:List Env),(∀b∈frs l,b∈X.fs)->X.s₀.heap.FunFrames X.base l->s.heap.FunFrames X.base l:=by
   intro l
   induction l with
   |nil=>intro _ _;trivial
   | cons env r ih=>
     intro hs hl;obtain⟨hk,⟨L,o,hf,hn,ho,hd⟩,hr⟩:=hl;have hL:L∈X.fs:=hs L (by unfold frs;rw[List.filterMap_cons,hf];exact z6w);obtain⟨sl,e⟩:=I.base.slot L o ho (I.ok.frf L hL) hL fun z=>I.ok.exfs L z hL;exact⟨hk,⟨L,_,hf,hn,e,hd⟩,ih (fun b hb=>hs b (by unfold frs;rw[List.filterMap_cons,hf];exact z6r _ hb)) hr⟩
 exact all X.outer (fun _ hb=>hb) I.ok.funs
theorem Inv.stack(I:Inv X pins σ H s):s.heap.FunFrames X.base X.stack:=by
 rcases I.ok.stk with e | ⟨e,hf⟩
 · rw[e];exact I.funs
 · rw[e];obtain⟨m,hn,_⟩:=I.loc;refine .cons (by rw[I.ok.kind];decide) hf hn ?_ I.funs;exact qba (z67 I.ok.bsz I.ok.above)
theorem Inv.stkSub(I:Inv X pins σ H s):∀b∈frs X.stack,b∈X.env.locals::X.fs:=fun b hb=>by
 rcases I.ok.stk with e | ⟨e,hf⟩
 · rw[e]at hb;exact z6r _ hb
 · rw[e]at hb;unfold frs at hb;rw[List.filterMap_cons,hf]at hb;exact hb
theorem Inv.stkFree(I:Inv X pins σ H s):∀b∈frs X.stack,H b=none:=fun b hb=>by
 rcases z6n.mp (I.stkSub b hb)with e | hb
 · rw[e];exact I.free
 · obtain⟨_,o,ho,_⟩:=I.ok.funs.mem hb;exact I.base.free b o ho (I.ok.frf b hb) fun z=>I.ok.exfs b z hb
theorem Inv.step{g':Array GenState}{t':Nat}{d':Drawn}{ch:List Addr}(I:Inv X pins σ H s)
   (hch:∀b∈ch,(b∈X.ex\/X.s₀.heap.objs.size<=b)/\b≠X.env.locals/\(∀x c,X.env.cells.lookup x=some c->c≠b)/\∀p∈X.pn++pins,p.1≠b)
   (keep:∀b o,b≠X.env.locals->b∉X.fs->b∉ch->s.heap.get? b=some o->H b=none->h'.get? b=some o)
   (slot:∀b o,b≠X.env.locals->b∈X.fs->b∉ch->s.heap.get? b=some o->H b=none->∃sl,h'.get? b=some { o with slots:=sl }) (free:∀b o,b∉ch->s.heap.get? b=some o->H b=none->H' b=none)
   (there:∀b o,b∉ch->s.heap.get? b=some o->∃o',h'.get? b=some o')
   (tups:∀b xs,H b=some (.tup xs)->H' b=some (.tup xs)) (frzs:∀b o u,H b=some (.frz o u)->H' b=some (.frz o u)) (tbls:∀b ps,H b=some (.tbl ps)->∃more,H' b=some (.tbl (ps++more)))
   (ns:∀m,s.heap.Ns X.env.locals m->h'.Ns X.env.locals m) (hok:HOk X.prog X.w H' h') (hg:AllBare g') :
   Inv X pins σ H' { s with heap:=h',gens:=g',drawn:=d',toks:=t' }:=by
 have neL:∀b o,X.s₀.heap.get? b=some o->b≠X.env.locals:=fun b o e=>z7b (z6p (z69 e) I.ok.above);have neC:∀b o,X.s₀.heap.get? b=some o->b∉X.ex->b∉ch:=fun b o e hx hb=>by
   rcases(hch b hb).1 with z | z
   · exact hx z
   · exact absurd (z6p (z69 e) z) (z8r _)
 have cellK:∀x c,X.env.cells.lookup x=some c->∀v,s.heap.IsCell c v->h'.IsCell c v:=fun x c e v ⟨o,ho,hd⟩=>by
   have nch:c∉ch:=fun z=>(hch c z).2.2.1 x c e rfl;by_cases hc:c∈X.fs
   · obtain⟨sl,q⟩:=slot c o (I.cne x c e) hc nch ho (I.freeC x c e);exact⟨_,q,hd⟩
   · exact⟨o,keep c o (I.cne x c e) hc nch ho (I.freeC x c e),hd⟩
 refine⟨I.ok,I.os,hg,⟨fun b o e n hb hx=>?_,fun b o e n hb hx=>?_,fun b o e n hx=>?_,fun b o e hx=>?_,fun b xs e=>tups b xs (I.base.tups b xs e),fun b o xs e=>frzs b o xs (I.base.frzs b o xs e),fun b ps e=>?_⟩,?_,fun x c e=>?_,?_,fun x c e=>?_,fun p hp=>?_,hok,I.len⟩
 · exact keep b o (neL b o e) hb (neC b o e hx) (I.base.keep b o e n hb hx) (I.base.free b o e n hx)
 · obtain⟨sl,e1⟩:=I.base.slot b o e n hb hx;obtain⟨sl',e2⟩:=slot b _ (neL b o e) hb (neC b o e hx) e1 (I.base.free b o e n hx);exact⟨sl',e2⟩
 · obtain⟨o',e1⟩:=I.base.there b o e hx;exact free b o' (neC b o e hx) e1 (I.base.free b o e n hx)
 · obtain⟨o',e1⟩:=I.base.there b o e hx;exact there b o' (neC b o e hx) e1
 · obtain⟨m1,e1⟩:=I.base.tbls b ps e;obtain⟨m2,e2⟩:=tbls b _ e1;exact⟨m1++m2,by rw[e2,Array.append_assoc]⟩
 · obtain⟨m,hn,hl⟩:=I.loc;refine⟨m,ns m hn,fun i x v e1 e2 e3=>?_⟩;obtain⟨u,r,l⟩:=hl i x v e1 e2 e3;refine⟨u,r,?_⟩;rcases l with l | ⟨k,c,e,z⟩
   · exact .inl l
   · exact .inr ⟨k,c,e,cellK x c e _ z⟩
 · obtain⟨v,z⟩:=I.cell x c e;exact⟨v,cellK x c e v z⟩
 · obtain⟨m,⟨o,_,_,ho,_⟩,_⟩:=I.loc;exact free _ o (fun z=>(hch _ z).2.1 rfl) ho I.free
 · obtain⟨v,o,ho,hd⟩:=I.cell x c e;exact free c o (fun z=>(hch c z).2.2.1 x c e rfl) ho (I.freeC x c e)
 · obtain⟨e,n,ne,nf,d⟩:=I.pin p hp;have nch:p.1∉ch:=fun z=>(hch p.1 z).2.2.2 p hp rfl;exact⟨keep p.1 p.2 ne nf nch e n,free p.1 p.2 nch e n,ne,nf,d⟩
theorem Inv.un{t':Nat}(I:Inv X pins σ H s)(u:Un X.fs [] H H' s.heap h')(hok:HOk X.prog X.w H' h'):Inv X pins σ H' { s with heap:=h',toks:=t' }:=by
 obtain⟨m,⟨o,es,ep,ho,r⟩,_⟩:=id I.loc;obtain⟨sl,hL⟩:=u.any ho I.free (by simp);exact I.step (g':=s.gens) (d':=s.drawn) (ch:=[]) (fun _ z=>nomatch z) (fun b o _ hb _ e n=>u.keep b o e n hb (by simp)) (fun b o _ hb _ e n=>u.slot b o e n hb (by simp)) (fun b o _ e n=>u.free b o e n (by simp)) (fun b o _ e=>u.there b o e (by simp)) u.tups u.frzs u.tbls (fun m' hm=>by
   obtain⟨o',es',ep',ho',r'⟩:=hm;rw[ho]at ho';cases ho';exact⟨_,es',ep',hL,r'⟩) hok I.bare
theorem Inv.call{g':Array GenState}{t':Nat}{d':Drawn}{ch:List Addr}(I:Inv X pins σ H s)(u:Un (frs X.stack) ch H H' s.heap h')(hok:HOk X.prog X.w H' h')(hg:AllBare g')
   (hch:∀b∈ch,(b∈X.ex\/X.s₀.heap.objs.size<=b)/\b≠X.env.locals/\(∀x c,X.env.cells.lookup x=some c->c≠b)/\∀p∈X.pn++pins,p.1≠b) :
   Inv X pins σ H' { s with heap:=h',gens:=g',drawn:=d',toks:=t' }:=by
 obtain⟨m,⟨o,es,ep,ho,r⟩,_⟩:=id I.loc;obtain⟨sl,hL⟩:=u.any ho I.free fun z=>(hch _ z).2.1 rfl;exact I.step (ch:=ch) hch (fun b o hL hb hc e n=>u.keep b o e n (fun z=>(z6n.mp (I.stkSub b z)).elim hL hb) hc) (fun b o _ _ hc e n=>u.any e n hc) (fun b o hc e n=>u.free b o e n hc) (fun b o hc e=>u.there b o e hc) u.tups u.frzs u.tbls (fun m' hm=>by
   obtain⟨o',es',ep',ho',r'⟩:=hm;rw[ho]at ho';cases ho';exact⟨_,es',ep',hL,r'⟩) hok hg
theorem Inv.turned{t':Nat}{it:Addr}(I:Inv X pins σ H s)(k:∀b o,b≠it->s.heap.get? b=some o->h'.get? b=some o)(hn:H it=none)(hL:it≠X.env.locals)
   (h1:it∈X.ex\/X.s₀.heap.objs.size<=it) (h2:∀x c,X.env.cells.lookup x=some c->c≠it) (h3:∀p∈X.pn++pins,p.1≠it):Inv X pins σ H { s with heap:=h',toks:=t' }:=by
 have nit:∀b u,H b=some u->b≠it:=fun b u e z=>by rw[z,hn]at e;cases e
 refine I.step (g':=s.gens) (d':=s.drawn) (ch:=[it]) (fun b hb=>?_) (fun b o _ _ hc e _=>k b o (fun z=>hc (by simp[z])) e) (fun b o _ _ hc e _=>⟨o.slots,k b o (fun z=>hc (by simp[z])) e⟩) (fun _ _ _ _ n=>n)
   (fun b o hc e=>⟨o,k b o (fun z=>hc (by simp[z])) e⟩) (fun _ _ e=>e) (fun _ _ _ e=>e) (fun b ps e=>⟨#[],by rw[e];simp⟩) (fun m hm=>?_) (fun b u e=>?_) I.bare
 · have e:b=it:=by simpa using hb
   subst e;exact⟨h1,hL,h2,h3⟩
 · obtain⟨o,es,ep,ho,r⟩:=hm;exact⟨o,es,ep,k _ o (z9m hL) ho,r⟩
 · refine(I.hok b u e).stay (fun c v hc q=>k c v ?_ q) (fun _ q=>q) fun _ _ q=>q;rcases hc with z | z
   · rw[z];exact nit b u e
   · exact nit c _ z
theorem Inv.tok(I:Inv X pins σ H s)(t:Nat):Inv X pins σ H { s with toks:=t }:=I.un (h':=s.heap) (t':=t) Un.refl I.hok
theorem Inv.kept{t':Nat}(I:Inv X pins σ H s)(k:∀b u,s.heap.get? b=some u->h'.get? b=some u):Inv X pins σ H { s with heap:=h',toks:=t' }:=I.un (Un.kept k) (I.hok.kept k)
theorem Inv.laid{a:Addr}{o:HO}{t':Nat}(I:Inv X pins σ H s)(k:∀b u,s.heap.get? b=some u->h'.get? b=some u)(hp:s.heap.objs.size<=a)(new:ObjOk X.prog X.w (upd H a o) h' a o) :
   Inv X pins σ (upd H a o) { s with heap:=h',toks:=t' }:=I.un (Un.laid k hp (I.hok.fresh hp)) (I.hok.laid k hp new)
theorem Inv.write{x e:Addr}{o:HO}{t':Nat}(I:Inv X pins σ H s)(mu:Mut (H x))(he:e=x\/H e=some (.own x))(k:∀b u,b≠e->s.heap.get? b=some u->h'.get? b=some u)(heo:∃u,h'.get? e=some u)
   (new:ObjOk X.prog X.w (upd H x o) h' x o):Inv X pins σ (upd H x o) { s with heap:=h',toks:=t' }:=I.un (Un.write mu he k heo) (I.hok.write mu he k heo new)
theorem Inv.pins_of{pins':zAO}(I:Inv X pins σ H s)(h:∀p∈pins',s.heap.get? p.1=some p.2/\H p.1=none/\p.1≠X.env.locals/\p.1∉X.fs/\∀v,p.2.data≠.cell v):Inv X pins' σ H s :=
 ⟨I.ok,I.os,I.bare,I.base,I.loc,I.cell,I.free,I.freeC,fun p hp=>(z62.mp hp).elim (fun z=>I.pin p (z7y _ z)) (h p),I.hok,I.len⟩
theorem zkq{N:List Str}(hN:N.Nodup){i j:Nat}{x:Str}(a:N[i]? = some x)(b:N[j]? = some x):i=j:=by obtain⟨h1,e1⟩:=z6o.mp a;obtain⟨h2,e2⟩:=z6o.mp b;exact(qb3 hN).mp (e1.trans e2.symm)
theorem zg9{M:Model}{A:Around}{E:zVP}{i:Nat}{x:Str}{v:V}{u:Value}{Q:Unit->Shared->Prop}(I:Inv X pins σ H s)(hN:X.N.Nodup)(hi:X.N[i]? = some x)(hx:Loc X.env.scope x)(r:RelV v u)
   (h:∀s',Inv X pins (σ.set i (some v)) H s'->(∃a,Heap.SameBut a s.heap s'.heap/\(a=X.env.locals\/X.env.cells.lookup x=some a))->Q () s') (hf:X.fn x=true\/X.env.scope.names.lookup x=some .local:=by first | exact .inl rfl | exact .inr rfl | assumption):wpAny M A (storeName X.env x u) Q E s:=by
 obtain⟨m,hn,hl⟩:=id I.loc;have hcls:(X.env.scope.kind==.class||(X.env.scope.kind==.module&&X.env.locals != X.env.globals))=false:=by rw[I.ok.kind];rfl
 have hiσ:i<σ.length:=by rw[I.len];exact(z6o.mp hi).1
 have cne:=I.cne;have tracked:∀{a:Addr}{h':Heap},(∃o,s.heap.get? a=some o/\H a=none)->Heap.SameBut a s.heap h'->HOk X.prog X.w H h':=fun {a h'} ha hs b ob e=>by
   obtain⟨_,_,hfree⟩:=ha;refine(I.hok b ob e).stay (fun c w' hc q=>(hs.2 c ?_).trans q) (fun _ q=>q) fun _ _ q=>q;rintro rfl;rcases hc with rfl | hc
   · rw[hfree]at e;cases e
   · rw[hfree]at hc;cases hc
 rcases hx with hk | hk
 · refine wpAny_storeName_local hk hn (fun h' hn' hs=>?_) hcls;obtain⟨oL,_,_,hoL,_⟩:=id hn;refine h _ ⟨I.ok,I.os,I.bare,⟨fun b o e n hb hx=>?_,fun b o e n hb hx=>?_,I.base.free,fun b o e hx=>?_,I.base.tups,I.base.frzs,I.base.tbls⟩,⟨_,hn',fun j y v' e1 e2 e3=>?_⟩,fun y c e=>?_,I.free,I.freeC,fun p hp=>?_,tracked ⟨oL,hoL,I.free⟩ hs,by simpa using I.len⟩ ⟨_,hs,.inl rfl⟩
   · exact(hs.2 b (z7b (z6p (z69 e) I.ok.above))).trans (I.base.keep b o e n hb hx)
   · obtain⟨sl,e1⟩:=I.base.slot b o e n hb hx;exact⟨sl,(hs.2 b (z7b (z6p (z69 e) I.ok.above))).trans e1⟩
   · obtain⟨o',e1⟩:=I.base.there b o e hx;exact⟨o',(hs.2 b (z7b (z6p (z69 e) I.ok.above))).trans e1⟩
   · by_cases hj:j=i
     · subst hj;rw[hi]at e1;cases e1;rw[z7w hiσ]at e2;cases e2;exact⟨u,r,.inl ⟨hk,by simp⟩⟩
     · rw[z88 (z9m hj)]at e2;obtain⟨u',r',q⟩:=hl j y v' e1 e2 e3;refine⟨u',r',?_⟩;rcases q with⟨k,e⟩ | ⟨k,c,e,z⟩
       · refine .inl ⟨k,?_⟩;have:y≠x:=fun e=>hj (zkq hN e1 (e▸hi));simp[this,e]
       · exact .inr ⟨k,c,e,z.sameBut hs (cne y c e)⟩
   · obtain⟨w',z⟩:=I.cell y c e;exact⟨w',z.sameBut hs (cne y c e)⟩
   · obtain⟨e,n,ne,nf,d⟩:=I.pin p hp;exact⟨(hs.2 p.1 ne).trans e,n,ne,nf,d⟩
 · have hfn:X.fn x=true:=by
     rcases hf with z | z
     · exact z
     · rw[z]at hk;cases hk
   obtain⟨c,hc⟩:=I.ok.has x (.inl hk);obtain⟨w',z⟩:=I.cell x c hc;refine wpAny_storeName_cell I.ok.kind hk hc z (fun h' hc' hs=>?_);obtain⟨oc,hoc,hocd⟩:=id z;refine h { s with heap:=h' } ⟨I.ok,I.os,I.bare,⟨fun b o e n hb hx=>?_,fun b o e n hb hx=>?_,I.base.free,fun b o e hx=>?_,I.base.tups,I.base.frzs,I.base.tbls⟩,⟨m,hn.sameBut hs (z9m (cne x c hc)),fun j y v' e1 e2 e3=>?_⟩,fun y c' e=>?_,I.free,I.freeC,fun p hp=>?_,tracked ⟨oc,hoc,I.freeC x c hc⟩ hs,by simpa using I.len⟩ ⟨c,hs,.inr hc⟩
   · exact(hs.2 b (z7b (z6p (z69 e) (I.ok.cab x c hfn hc)))).trans (I.base.keep b o e n hb hx)
   · obtain⟨sl,e1⟩:=I.base.slot b o e n hb hx;exact⟨sl,(hs.2 b (z7b (z6p (z69 e) (I.ok.cab x c hfn hc)))).trans e1⟩
   · obtain⟨o',e1⟩:=I.base.there b o e hx;exact⟨o',(hs.2 b (z7b (z6p (z69 e) (I.ok.cab x c hfn hc)))).trans e1⟩
   · by_cases hj:j=i
     · subst hj;rw[hi]at e1;cases e1;rw[z7w hiσ]at e2;cases e2;exact⟨u,r,.inr ⟨.inl hk,c,hc,hc'⟩⟩
     · rw[z88 (z9m hj)]at e2;obtain⟨u',r',q⟩:=hl j y v' e1 e2 e3;refine⟨u',r',?_⟩;rcases q with q | ⟨k,c',e,z'⟩
       · exact .inl q
       · refine .inr ⟨k,c',e,z'.sameBut hs ?_⟩;rintro rfl;exact hj (zkq hN e1 (I.ok.inj _ _ _ e hc▸hi))
   · by_cases hcc:c'=c
     · subst hcc;exact⟨_,hc'⟩
     · obtain⟨w2,z2⟩:=I.cell y c' e;exact⟨w2,z2.sameBut hs hcc⟩
   · obtain⟨e,n,ne,nf,d⟩:=I.pin p hp;refine⟨(hs.2 p.1 ?_).trans e,n,ne,nf,d⟩;intro q;rw[q,hoc]at e;have q':oc=p.2:=z7s e;exact d w' (by rw[<-q'];exact hocd)
theorem zkc{M:Model}{A:Around}{E:zVP}{i:Nat}{x:Str}{v:V}{u:Value}{Q:Unit->Shared->Prop}(I:Inv X pins σ H s)(hN:X.N.Nodup)(hi:X.N[i]? = some x)(hx:Loc X.env.scope x)(r:RelV v u)
   (h:∀s',Inv X pins (σ.set i (some v)) H s'->Q () s') (hf:X.fn x=true\/X.env.scope.names.lookup x=some .local:=by first | exact .inl rfl | exact .inr rfl | assumption):wpAny M A (storeName X.env x u) Q E s :=
 zg9 I hN hi hx r (fun s' I' _=>h s' I') hf
theorem Inv.call'{s':Shared}{ch:List Addr}(I:Inv X pins σ H s)(ho:s'.os=s.os)(u:Un (frs X.stack) ch H H' s.heap s'.heap)(hok:HOk X.prog X.w H' s'.heap)(hg:AllBare s'.gens)
   (hch:∀b∈ch,(b∈X.ex\/X.s₀.heap.objs.size<=b)/\b≠X.env.locals/\(∀x c,X.env.cells.lookup x=some c->c≠b)/\∀p∈X.pn++pins,p.1≠b):Inv X pins σ H' s':=by
 obtain⟨h',g',d',t',o'⟩:=s';have e:o'=s.os:=ho;subst e;exact I.call (g':=g') (t':=t') (d':=d') u hok hg hch
end
abbrev XK:=Value->Option Addr->Hp->Prop
abbrev St:=List (Option V)
abbrev VK:=V->Hp->Prop
abbrev TE:=St->Hp->VK->Prop
abbrev TT:=St->Hp->(Bool->Hp->Prop)->Prop
abbrev TA:=St->Hp->(List V->Hp->Prop)->Prop
structure Ends where
 nx:St->Hp->Prop
 rt:VK
 bk:St->Hp->Prop:=fun _ _=>False
 ct:St->Hp->Prop:=fun _ _=>False
abbrev TS:=Ends->St->Hp->Prop
def EP(X:Cx)(pins:zAO)(σ:St)(Q:VK)(u:Value)(s':Shared):Prop:=∃v H',Inv X pins σ H' s'/\RelV v u/\Q v H'
def TP(X:Cx)(pins:zAO)(σ:St)(Q:Bool->Hp->Prop)(b:Bool)(s':Shared):Prop:=∃H',Inv X pins σ H' s'/\Q b H'
def AP(X:Cx)(pins:zAO)(σ:St)(Q:List V->Hp->Prop)(us:List Value)(s':Shared):Prop:=∃vs H',Inv X pins σ H' s'/\Vals vs us/\Q vs H'
def SP(X:Cx)(pins:zAO)(D:Ends)(f:Flow)(s':Shared):Prop :=
 match f with
 | .next=>∃σ' H',Inv X pins σ' H' s'/\D.nx σ' H'
 | .brk=>∃σ' H',Inv X pins σ' H' s'/\D.bk σ' H'
 | .cont=>∃σ' H',Inv X pins σ' H' s'/\D.ct σ' H'
 | .ret u=>∃v σ' H',Inv X pins σ' H' s'/\RelV v u/\D.rt v H'
def PE(X:Cx)(e:Expr)(t:TE):Prop :=
 ∀(pins:zAO) (s:Shared) (σ:St) (H:Hp) (Q:VK),Inv X pins σ H s->t σ H Q->wpAny (model X.prog X.w) X.A (eval e X.env) (EP X pins σ Q) X.xe s
def PT(X:Cx)(e:Expr)(t:TT):Prop :=
 ∀(pins:zAO) (s:Shared) (σ:St) (H:Hp) (Q:Bool->Hp->Prop),Inv X pins σ H s->t σ H Q->wpAny (model X.prog X.w) X.A (isTrue e X.env (eval e X.env)) (TP X pins σ Q) X.xe s
def PW(X:Cx)(e:Expr)(t:TT):Prop :=
 ∀(whole:Sem Value) (pins:zAO) (s:Shared) (σ:St) (H:Hp) (Q:Bool->Hp->Prop),Inv X pins σ H s->t σ H Q->wpAny (model X.prog X.w) X.A (isTrue e X.env whole) (TP X pins σ Q) X.xe s
theorem PW.pt{X:Cx}{e:Expr}{t:TT}(h:PW X e t):PT X e t:=h _
def PA(X:Cx)(es:List Expr)(t:TA):Prop :=
 ∀(pos:Pos) (pins:zAO) (s:Shared) (σ:St) (H:Hp) (Q:List V->Hp->Prop),Inv X pins σ H s->t σ H Q->wpAny (model X.prog X.w) X.A (spliced (backTo pos (starEach es X.env))) (AP X pins σ Q) X.xe s
def PS(X:Cx)(st:Stmt)(t:TS):Prop :=
 ∀(pins:zAO) (s:Shared) (σ:St) (H:Hp) (D:Ends),Inv X pins σ H s->t D σ H->wpAny (model X.prog X.w) X.A (exec st X.env) (SP X pins D) X.xe s
def PSs(X:Cx)(st:List Stmt)(t:TS):Prop :=
 ∀(pins:zAO) (s:Shared) (σ:St) (H:Hp) (D:Ends),Inv X pins σ H s->t D σ H->wpAny (model X.prog X.w) X.A (execs st X.env) (SP X pins D) X.xe s
theorem thn{α:Type}{t:Sem α}{Q Q':α->Shared->Prop}{M:Model}{A:Around}{E:zVP}{s:Shared}(h:wpAny M A t Q E s)(hQ:∀a s,Q a s->Q' a s):wpAny M A t Q' E s:=z8o h hQ fun _ _ x=>x
section
variable {X:Cx}
def z5b(i:Nat):TE:=fun σ H Q=>∃v,σ[i]? = some (some v)/\Q v H
def tC(v:V):TE:=fun _ H Q=>Q v H
theorem zyv{i:Nat}{x:Str}{pos:Pos}(hN:X.N[i]? = some x)(hv:Vis X.env.scope x)(hd:(x==("__debug__":Str))=false:=by decide)(hcd:(x==("__classdict__":Str))=false:=by decide):PE X (.Name x pos) (z5b i):=by
 intro pins s σ H Q I h;obtain⟨v,e,h⟩:=h;obtain⟨m,hn,hl⟩:=I.loc;obtain⟨u,r,l⟩:=hl i x v hN e hv;have fin:EP X pins σ Q u s:=⟨v,H,I,r,h⟩
 rcases l with⟨hk,hm⟩ | ⟨hk,c,hc,hcell⟩
 · exact wpAny_Name (wpAny_loadName_local I.ok.kind hk hn hm fin) hd
 · rcases hk with hk | hk
   · exact wpAny_Name (wpAny_loadName_cell I.ok.kind hk hc hcell fin) hd
   · exact wpAny_Name (wpAny_loadName_free I.ok.kind hk hc hcell fin hcd) hd
theorem zy2{i j pos}:PE X (.Constant (.int i) j pos) (tC (.int i)):=fun _ _ _ H _ I h=>wpAny_Constant_int ⟨.int i,H,I.tok _,⟨_,rfl⟩,h⟩
theorem z2w{b j pos}:PE X (.Constant (.bool b) j pos) (tC (.bl b)):=fun _ _ _ H _ I h=>Constant_bool ⟨.bl b,H,I,rfl,h⟩
theorem zy1{j pos}:PE X (.Constant .none j pos) (tC .non):=fun _ _ _ H _ I h=>Constant_none ⟨.non,H,I,rfl,h⟩
theorem zyx{x j pos}:PE X (.Constant (.str x) j pos) (tC (.str x)):=fun _ _ _ H _ I h=>Calls.Constant_str ⟨.str x,H,I.tok _,⟨_,rfl⟩,h⟩
def Gl(X:Cx)(x:Str):Prop:=X.env.kindOf x=some .globalImplicit
theorem zf7{E:zVP}{pins:zAO}{s:Shared}{σ:St}{H:Hp}{x:Str}{u:Value}{pos:Pos}{Q:zVP}(I:Inv X pins σ H s)(hg:Gl X x)(hm:X.mg x=some u)(h:Q u s)
   (hd:(x==("__debug__":Str))=false:=by decide):wpAny (model X.prog X.w) X.A (eval (.Name x pos) X.env) Q E s :=
 Calls.Name_function_global I.ok.kind hg (Calls.loadGlobal_global (by rw[I.ok.glob];exact I.mod.glob.keeps I.bk) hm h) hd
theorem zdw{E:zVP}{pins:zAO}{s:Shared}{σ:St}{H:Hp}{x:Str}{u:Value}{pos:Pos}{Q:zVP}(I:Inv X pins σ H s)(hg:Gl X x)(hm:X.mg x=none)(hv:bootBuiltins x=some u)(h:Q u s)
   (hn:x≠"__name__":=by decide) (hd:(x==("__debug__":Str))=false:=by decide):wpAny (model X.prog X.w) X.A (eval (.Name x pos) X.env) Q E s:=by
 obtain⟨mb,h1,h2⟩:=I.mod.blt;exact Calls.Name_function_global I.ok.kind hg (Calls.loadGlobal_builtin (by rw[I.ok.glob];exact I.mod.glob.keeps I.bk) hm (by rw[I.ok.blt];exact h1.keeps I.bk) ((h2 x hn).trans hv) h) hd
theorem zvo{x:Str}{v:V}{u:Value}{pos:Pos}(hg:Gl X x)(hm:X.mg x=some u)(r:RelV v u)(hd:(x==("__debug__":Str))=false:=by decide):PE X (.Name x pos) (tC v) :=
 fun _ _ _ H _ I h=>zf7 I hg hm ⟨v,H,I,r,h⟩ hd
theorem zvs{x:Str}{v:V}{u:Value}{pos:Pos}(hg:Gl X x)(hm:X.mg x=none)(hv:bootBuiltins x=some u)(r:RelV v u)(hn:x≠"__name__":=by decide)(hd:(x==("__debug__":Str))=false:=by decide):PE X (.Name x pos) (tC v) :=
 fun _ _ _ H _ I h=>zdw I hg hm hv ⟨v,H,I,r,h⟩ hn hd
variable {a b:Expr}{ta tb:TE}{pos:Pos}
def tB(t:TE):TT:=fun σ H Q=>t σ H fun x H1=>∃c,x=.bl c/\Q c H1
theorem zym{e:Expr}{t:TE}(h:PE X e t)(he:∀whole,isTrue e X.env whole=(do let v <-whole;standAt e.pos;holding [v] (truthy v)):=by intro _;rfl):PT X e (tB t):=by intro pins s σ H Q I hw;refine isTrue_plain (thn (h pins s σ H _ I hw) fun v s1 ⟨x,H1,I1,r1,q1⟩=>?_) (he _);obtain⟨d,rfl,q⟩:=q1;cases r1;exact z8a ⟨H1,I1,q⟩
variable {tA tB':TT}{rest:List Expr}
def z5n(t u:TT):TT:=fun σ H Q=>t σ H fun c H1=>if c=true then u σ H1 Q else Q false H1
def tOr(t u:TT):TT:=fun σ H Q=>t σ H fun c H1=>if c=true then Q true H1 else u σ H1 Q
def z5g(t:TT):TT:=fun σ H Q=>t σ H fun c H1=>Q (!c) H1
theorem zve(ha:PT X a tA):PW X (.BoolOp .And [a] pos) tA:=by
 intro wh pins s σ H Q I h;refine isTrue_and (thn (ha pins s σ H Q I h) fun c s1 e=>?_);cases c with
 |true=>exact isTrue_and_nil e
 |false=>exact e
theorem zyj(ha:PT X a tA):PW X (.BoolOp .Or [a] pos) tA:=by
 intro wh pins s σ H Q I h;refine isTrue_or (thn (ha pins s σ H Q I h) fun c s1 e=>?_);cases c with
 |false=>exact isTrue_or_nil e
 |true=>exact e
theorem zyl(ha:PT X a tA)(hb:PW X (.BoolOp .And (b::rest) pos) tB'):PW X (.BoolOp .And (a::b::rest) pos) (z5n tA tB'):=by
 intro wh pins s σ H Q I h;refine isTrue_and (thn (ha pins s σ H _ I h) fun c s1 ⟨H1,I1,q1⟩=>?_);cases c with
 |true=>exact hb wh pins s1 σ H1 Q I1 q1
 |false=>exact⟨H1,I1,q1⟩
theorem z2r(ha:PT X a tA)(hb:PW X (.BoolOp .Or (b::rest) pos) tB'):PW X (.BoolOp .Or (a::b::rest) pos) (tOr tA tB'):=by
 intro wh pins s σ H Q I h;refine isTrue_or (thn (ha pins s σ H _ I h) fun c s1 ⟨H1,I1,q1⟩=>?_);cases c with
 |true=>exact⟨H1,I1,q1⟩
 |false=>exact hb wh pins s1 σ H1 Q I1 q1
theorem zyn(ha:PT X a tA):PT X (.UnaryOp .Not a pos) (z5g tA):=by intro pins s σ H Q I h;exact isTrue_not (ha pins s σ H (fun c H1=>Q (!c) H1) I h)
def z2j(ta tb:TE):TE:=fun σ H Q=>ta σ H fun x H1=>∃c,x=.bl c/\if c=true then tb σ H1 Q else Q (.bl false) H1
def z2d(ta:TE):TE:=fun σ H Q=>ta σ H fun x H1=>∃c,x=.bl c/\Q (.bl (!c)) H1
theorem zyz{op}{t:TE}(h:PE X a t):PE X (.BoolOp op [a] pos) t:=fun pins s σ H Q I hw=>BoolOp_one (h pins s σ H Q I hw)
theorem zy7(ha:PE X a ta)(hb:PE X (.BoolOp .And (b::rest) pos) tb):PE X (.BoolOp .And (a::b::rest) pos) (z2j ta tb):=by
 intro pins s σ H Q I h;refine BoolOp_and (thn (ha pins s σ H _ I h) fun v s1 ⟨x,H1,I1,r1,q1⟩=>?_);obtain⟨c,rfl,q1⟩:=q1;cases r1;refine z8a ?_;cases c with
 |true=>exact hb pins s1 σ H1 Q I1 q1
 |false=>exact⟨.bl false,H1,I1,rfl,q1⟩
theorem zy0(ha:PE X a ta):PE X (.UnaryOp .Not a pos) (z2d ta):=by intro pins s σ H Q I h;refine UnaryOp_ (thn (ha pins s σ H _ I h) fun v s1 ⟨x,H1,I1,r1,q1⟩=>?_);obtain⟨c,rfl,q1⟩:=q1;cases r1;exact not_of (z8a ⟨.bl (!c),H1,I1,rfl,q1⟩)
end
def SqL(K:zFr)(H:Hp)(a:Addr)(xs:List V):Prop :=
 Rd H a (.lst xs) \/
   ∃(o:Obj) (its:Array Value) (n:Nat),K.lookup a=some o/\o.cls=.type "list"/\o.dict=none/\o.data=.seq its n/\its.size<=sizeLine/\Vals xs its.toList
def SqT(K:zFr)(H:Hp)(a:Addr)(xs:List V):Prop :=
 Rd H a (.tup xs) \/
   ∃(o:Obj) (its:Array Value) (n:Nat),K.lookup a=some o/\o.cls=.type "tuple"/\o.data=.seq its n/\its.size<=sizeLine/\Vals xs its.toList
def z6g:Value->Option V
 | .none=>some .non
 | .bool b=>some (.bl b)
 | .int i _=>some (.int i)
 | .str x _=>some (.str x)
 | .bytes b _=>some (.byt b)
 | .float b _=>some (.flt b)
 | .ref a=>some (.ref a)
 | .type n=>some (.ty n)
 |_=>none
theorem RelV.abs{x:V}{u:Value}(r:RelV x u):z6g u=some x:=by
 cases x with
 |non=>cases r;rfl
 |bl _=>cases r;rfl
 |int _=>obtain⟨t,rfl⟩:=r;rfl
 |str _=>obtain⟨t,rfl⟩:=r;rfl
 |byt _=>obtain⟨t,rfl⟩:=r;rfl
 |flt _=>obtain⟨t,rfl⟩:=r;rfl
 |ref _=>cases r;rfl
 |ty _=>cases r;rfl
theorem RelV.inj{x y:V}{u:Value}(r:RelV x u)(q:RelV y u):x=y:=z7s (r.abs.symm.trans q.abs)
theorem Vals.inj:∀{xs ys:List V}{us:List Value},Vals xs us->Vals ys us->xs=ys
 |_,_,_,.nil,.nil=>rfl
 |_,_,_,.cons r t,.cons r' t'=>by rw[r.inj r',Vals.inj t t']
section
variable {X:Cx}{pins:zAO}{σ:St}{H:Hp}{s:Shared}{a:Addr}{xs ys:List V}
theorem SqL.of{K:zFr}(h:H a=some (.lst xs)):SqL K H a xs:=.inl (.inl h)
theorem Inv.list(I:Inv X pins σ H s)(h:SqL X.K H a xs):∃its:List Value,Vals xs its/\PlainL s.heap a its.toArray/\xs.length<=sizeLine:=by
 rcases h with h | ⟨o,its,n,hk,hc,hd,hs,hz,r⟩
 · obtain⟨z,its,n,r,e⟩:=h.ok I.hok;exact⟨its,r,⟨_,n,e,rfl,rfl,rfl⟩,z⟩
 · refine⟨its.toList,r,⟨o,n,I.kIn a o hk,hc,hd,by simpa using hs⟩,?_⟩;have e:=r.length;simp only[Array.length_toList]at e;omega
theorem Inv.tuple(I:Inv X pins σ H s)(h:SqT X.K H a xs):∃its:List Value,Vals xs its/\IsTup s.heap a its.toArray/\xs.length<=sizeLine:=by
 rcases h with h | ⟨o,its,n,hk,hc,hs,hz,r⟩
 · obtain⟨z,its,r,p⟩:=h.ok I.hok;exact⟨its,r,p,z⟩
 · refine⟨its.toList,r,⟨o,I.kIn a o hk,hc,n,by simpa using hs⟩,?_⟩;have e:=r.length;simp only[Array.length_toList]at e;omega
theorem Inv.list_inj(I:Inv X pins σ H s)(h:SqL X.K H a xs)(h':SqL X.K H a ys):xs=ys:=by
 obtain⟨its,r,⟨o,n,e,_,_,d⟩,_⟩:=I.list h;obtain⟨its',r',⟨o',n',e',_,_,d'⟩,_⟩:=I.list h';rw[e]at e';cases e';rw[d]at d';injection d' with d1 _;have:its=its':=by simpa using z8y Array.toList d1
 subst this;exact r.inj r'
theorem Inv.tuple_inj(I:Inv X pins σ H s)(h:SqT X.K H a xs)(h':SqT X.K H a ys):xs=ys:=by
 obtain⟨its,r,⟨o,e,_,n,d⟩,_⟩:=I.tuple h;obtain⟨its',r',⟨o',e',_,n',d'⟩,_⟩:=I.tuple h';rw[e]at e';cases e';rw[d]at d';injection d' with d1 _;have:its=its':=by simpa using z8y Array.toList d1
 subst this;exact r.inj r'
end
abbrev Cx.wish(X:Cx)(E:zVP):Cx:={ X with xe:=E }
abbrev Cx.nox(X:Cx):Cx:=X.wish fun _ _=>False
theorem Cx.Ok.wish{X:Cx}(ok:X.Ok)(E:zVP):(X.wish E).Ok :=
 ⟨ok.mod,ok.kind,ok.glob,ok.blt,ok.above,ok.inj,ok.has,ok.cab,ok.hd,ok.frames,ok.stk,ok.exf,ok.bs,ok.bsz,ok.noex,ok.exfs,ok.funs,ok.frf⟩
theorem Cx.Ok.unwish{X:Cx}{E:zVP}(ok:(X.wish E).Ok):X.Ok :=
 ⟨ok.mod,ok.kind,ok.glob,ok.blt,ok.above,ok.inj,ok.has,ok.cab,ok.hd,ok.frames,ok.stk,ok.exf,ok.bs,ok.bsz,ok.noex,ok.exfs,ok.funs,ok.frf⟩
section
variable {X:Cx}{pins:zAO}{σ:St}{H:Hp}{s:Shared}{E:zVP}
theorem Inv.wish(I:Inv X pins σ H s)(E:zVP):Inv (X.wish E) pins σ H s:=⟨I.ok.wish E,I.os,I.bare,I.base,I.loc,I.cell,I.free,I.freeC,I.pin,I.hok,I.len⟩
theorem Inv.unwish(I:Inv (X.wish E) pins σ H s):Inv X pins σ H s:=⟨I.ok.unwish,I.os,I.bare,I.base,I.loc,I.cell,I.free,I.freeC,I.pin,I.hok,I.len⟩
theorem SP.unwish{D:Ends}{f:Flow}{s':Shared}(h:SP (X.wish E) pins D f s'):SP X pins D f s':=by
 cases f with
 |next=>obtain⟨σ',H',I,q⟩:=h;exact⟨σ',H',I.unwish,q⟩
 |brk=>obtain⟨σ',H',I,q⟩:=h;exact⟨σ',H',I.unwish,q⟩
 |cont=>obtain⟨σ',H',I,q⟩:=h;exact⟨σ',H',I.unwish,q⟩
 |ret u=>obtain⟨v,σ',H',I,r,q⟩:=h;exact⟨v,σ',H',I.unwish,r,q⟩
theorem PE.nox{e:Expr}{t:TE}(h:PE X.nox e t):PE X e t:=fun pins s σ H Q I hw=>
 z8o (h pins s σ H Q (I.wish _) hw) (fun _ _ ⟨v,H',I',r,q⟩=>⟨v,H',I'.unwish,r,q⟩) fun _ _ z=>False.elim z
theorem PSs.nox{st:List Stmt}{t:TS}(h:PSs X.nox st t):PSs X st t:=fun pins s σ H D I hw=>
 z8o (h pins s σ H D (I.wish _) hw) (fun _ _ q=>q.unwish) fun _ _ z=>False.elim z
end
section
variable {X:Cx}{st:Stmt}{rest:List Stmt}{t u:TS}{e:Expr}{te:TE}{pos:Pos}
def z2e:TS:=fun D σ H=>D.nx σ H
def z5d(t u:TS):TS:=fun D σ H=>t { D with nx:=u D } σ H
theorem zvh:PSs X [] z2e:=fun _ _ σ H _ I h=>qbb ⟨σ,H,I,h⟩
theorem zrs(h1:PS X st t)(h2:PSs X rest u):PSs X (st::rest) (z5d t u):=by
 intro pins s σ H D I h;refine wpAny_execs_cons (thn (h1 pins s σ H { D with nx:=u D } I h) fun f s1 q=>?_);cases f with
 | next=>
   obtain⟨σ',H',I',q⟩:=q;exact h2 pins s1 σ' H' D I' q
 |ret v=>exact q
 |brk=>exact q
 |cont=>exact q
theorem zvg(h1:PS X st t):PSs X [st] t:=by
 intro pins s σ H D I h;refine wpAny_execs_cons (thn (h1 pins s σ H D I h) fun f s1 q=>?_);cases f with
 |next=>exact qbb q
 |ret v=>exact q
 |brk=>exact q
 |cont=>exact q
theorem Inv.quiet{pins:zAO}{σ:St}{H:Hp}{s:Shared}(I:Inv X pins σ H s):interactive X.env=false:=by simp[interactive,I.ok.kind]
def z2g(te:TE):TS:=fun D σ H=>te σ H fun _ H1=>D.nx σ H1
theorem zoh(he:PE X e te)(hs:swapsWith e none pos.line X.env=pure false:=by rfl):PS X (.Expr e pos) (z2g te):=by intro pins s σ H D I h;exact wpAny_Expr_any (thn (he pins s σ H _ I h) fun v s1 ⟨x,H1,I1,r1,q1⟩=>⟨σ,H1,I1,q1⟩) I.quiet hs
def z5f(te:TE):TS:=fun D σ H=>te σ H D.rt
theorem zyp(he:PE X e te):PS X (.Return (some e) pos) (z5f te):=by intro pins s σ H D I h;exact wpAny_Return_some (thn (he pins s σ H _ I h) fun v s1 ⟨x,H1,I1,r1,q1⟩=>⟨x,σ,H1,I1,r1,q1⟩)
def z2b:TS:=fun D _ H=>D.rt .non H
theorem zvi:PS X (.Return none pos) z2b:=fun _ _ σ H _ I h=>wpAny_Return_none ⟨.non,σ,H,I,rfl,h⟩
def z5i(c:TT)(t u:TS):TS:=fun D σ H=>c σ H fun b H1=>if b=true then t D σ H1 else u D σ H1
theorem z2s{c:Expr}{a b:List Stmt}{tc:TT}(hc:PT X c tc)(ha:PSs X a t)(hb:PSs X b u):PS X (.If c a b pos) (z5i tc t u):=by
 intro pins s σ H D I h;refine wpAny_If (thn (hc pins s σ H _ I h) fun d s1 ⟨H1,I1,q1⟩=>?_);cases d with
 |true=>exact ha pins s1 σ H1 D I1 q1
 |false=>exact hb pins s1 σ H1 D I1 q1
def zxv:TS:=fun _ _ _=>False
theorem zru:PS X st zxv:=fun _ _ _ _ _ _ h=>h.elim
end
abbrev TG:=V->St->Hp->(St->Hp->Prop)->Prop
def PG(X:Cx)(target:Expr)(t:TG):Prop :=
 ∀(pins:zAO) (s:Shared) (σ:St) (H:Hp) (v:V) (u:Value) (Q:St->Hp->Prop),Inv X pins σ H s->RelV v u->t v σ H Q ->
   wpAny (model X.prog X.w) X.A (assign target X.env u) (fun _ s'=>∃σ' H',Inv X pins σ' H' s'/\Q σ' H') X.xe s
abbrev z34:=V->V->V->Hp->(Hp->Prop)->Prop
def z47(X:Cx)(t:z34):Prop :=
 ∀(pins:zAO) (s:Shared) (σ:St) (H:Hp) (o i v:V) (ov iv u:Value) (Q:Hp->Prop),Inv X pins σ H s->RelV o ov->RelV i iv->RelV v u->t o i v H Q ->
   wpAny (model X.prog X.w) X.A (setItem ov iv u) (fun _ s'=>∃H',Inv X pins σ H' s'/\Q H') X.xe s
section
variable {X:Cx}{pos:Pos}
def zpt(i:Nat):TG:=fun v σ H Q=>Q (σ.set i (some v)) H
theorem zfy{i:Nat}{x:Str}(hN:X.N.Nodup)(hi:X.N[i]? = some x)(hx:Loc X.env.scope x)(hf:X.fn x=true\/X.env.scope.names.lookup x=some .local:=by first | exact .inl rfl | exact .inr rfl | assumption):PG X (.Name x pos) (zpt i):=by intro pins s σ H v u Q I r h;exact wpAny_assign_Name (zkc I hN hi hx r (fun s' I'=>⟨_,H,I',h⟩) hf)
def z58(to ti:TE)(t:z34):TG:=fun v σ H Q=>to σ H fun o H1=>ti σ H1 fun i H2=>t o i v H2 fun H3=>Q σ H3
theorem zyu{o i:Expr}{to ti:TE}{t:z34}(ho:PE X o to)(hi:PE X i ti)(hs:z47 X t)
   (ha:∀v,assign (.Subscript o i pos) X.env v=(do
     let ov <-holding [v] (eval o X.env)
     let iv <-holding [v,ov] (eval i X.env)
     standAt pos
     holding [v,ov,iv] (setItem ov iv v)
     release [v,ov,iv] []):=by intro _;rfl):PG X (.Subscript o i pos) (z58 to ti t):=by
 intro pins s σ H v u Q I r h;rw[ha];refine z6m (wpAny_holding (thn (ho pins s σ H _ I h) fun ov s1 ⟨x,H1,I1,r1,q1⟩=>?_));refine z6m (wpAny_holding (thn (hi pins s1 σ H1 _ I1 q1) fun iv s2 ⟨y,H2,I2,r2,q2⟩=>?_));refine z6m (wpAny_standAt (z6m (wpAny_holding (thn (hs pins s2 σ H2 x y v ov iv u _ I2 r1 r2 r q2) fun _ s3 ⟨H3,I3,q3⟩=>?_))));exact wpAny_release ⟨σ,H3,I3,q3⟩
def z4g(te:TE)(g:TG):TS:=fun D σ H=>te σ H fun x H1=>g x σ H1 D.nx
theorem zyr{tg e:Expr}{te:TE}{g:TG}(he:PE X e te)(hg:PG X tg g)(hs:swapsWithSole [tg] e pos.line X.env=pure false:=by rfl)(hw:swappedStores [tg] e X.env=pure none:=by rfl)
   (h1:(assignEach [tg] X.env).map (·.2)=[assign tg X.env]:=by rfl):PS X (.Assign [tg] e pos) (z4g te g):=by
 intro pins s σ H D I h;refine wpAny_Assign_stores (thn (he pins s σ H _ I h) fun v s1 ⟨x,H1,I1,r1,q1⟩=>?_) hs hw;rw[h1];exact thn (hg pins s1 σ H1 x v _ I1 r1 q1) fun _ s2 q=>q
theorem zyo{i:Nat}{x:Str}{e:Expr}{te:TE}{pos':Pos}(hN:X.N.Nodup)(hi:X.N[i]? = some x)(hx:Loc X.env.scope x)(he:PE X e te)(hs:swapsWith e (some (.Name x pos')) pos.line X.env=pure false:=by rfl)(hf:X.fn x=true\/X.env.scope.names.lookup x=some .local:=by first | exact .inl rfl | exact .inr rfl | assumption) :
   PS X (.Assign [.Name x pos'] e pos) (z4g te (zpt i)):=by
 intro pins s σ H D I h;refine wpAny_Assign_Name (thn (he pins s σ H _ I h) fun v s1 ⟨y,H1,I1,r1,q1⟩=>?_) hs;exact zkc I1 hN hi hx r1 (fun s2 I2=>⟨_,H1,I2,q1⟩) hf
end
section
variable {X:Cx}{pos:Pos}
def zxu(c:TT)(tb:TS):TS:=fun D σ H=>∃W:Nat->St->Hp->Prop,(∃m,W m σ H)/\∀m σ H,W m σ H ->
 c σ H fun b H1=>if b=true then ∃N:St->Hp->Prop,(∀σ' H',N σ' H'->∃m',m'<m/\W m' σ' H')/\tb { D with nx:=N,ct:=N,bk:=D.nx } σ H1 else D.nx σ H1
theorem zrt{c:Expr}{body:List Stmt}{tc:TT}{tb:TS}(hp:PassesOwn (model X.prog X.w) X.A X.env X.xe)(hc:PT X c tc)(hb:PSs X body tb):PS X (.While c body [] pos) (zxu tc tb):=by
 intro pins s σ H D I h;obtain⟨W,⟨m0,w0⟩,turn⟩:=h;refine wpAny_While (codeAny_whileLoop (fun n s'=>∃σ' H',Inv X pins σ' H' s'/\W n σ' H') ?_ m0 ⟨σ,H,I,w0⟩);rintro n s1 ⟨σ1,H1,I1,w1⟩;refine z9o hp (thn (hc pins s1 σ1 H1 _ I1 (turn n σ1 H1 w1)) fun b s2 ⟨H2,I2,q2⟩=>?_);cases b with
 | true=>
   obtain⟨N,hN,q2⟩:=q2;rw[z64 rfl];refine z9o hp (thn (hb pins s2 σ1 H2 _ I2 q2) fun f s3 q3=>?_);cases f with
   | next=>
     obtain⟨σ3,H3,I3,n3⟩:=q3;obtain⟨m',hm,w3⟩:=hN σ3 H3 n3;exact⟨m',hm,σ3,H3,I3,w3⟩
   | cont=>
     obtain⟨σ3,H3,I3,n3⟩:=q3;obtain⟨m',hm,w3⟩:=hN σ3 H3 n3;exact⟨m',hm,σ3,H3,I3,w3⟩
   |brk=>exact q3
   |ret v=>exact q3
 | false=>
   rw[z7a z73];exact qbb ⟨σ1,H2,I2,q2⟩
end
structure It where
 go:Nat->Hp->Prop
 yld:Nat->Hp->V->Hp->Prop
 stop:Nat->Hp->Prop
def zm8(X:Cx)(pins:zAO)(H:Hp)(b:Addr):Prop :=
 H b=none/\b≠X.env.locals/\b∉X.fs/\(b∈X.ex\/X.s₀.heap.objs.size<=b)/\(∀x c,X.env.cells.lookup x=some c->c≠b)/\∀p∈X.pn++pins,p.1≠b
theorem Inv.fpOk{X:Cx}{pins:zAO}{σ:St}{H H':Hp}{s:Shared}{b:Addr}(I:Inv X pins σ H s)(hb:s.heap.objs.size<=b)(hn:H' b=none):zm8 X pins H' b:=by
 refine⟨hn,Nat.ne_of_gt (z6p I.lt hb),I.nofs hb,.inr (z67 I.sz hb),fun x c e z=>?_,fun p hp z=>?_⟩
 · obtain⟨v,q⟩:=I.cell x c e;exact absurd (z6p q.lt (by rw[z];exact hb)) (z8r _)
 · exact absurd (z6p (z69 (I.pin p hp).1) (by rw[z];exact hb)) (z8r _)
structure Turn (P:Program) (w:World) (K:zFr) (tg:Expr) (J:It) (fp:List Addr) (it:Addr) (tn:Nat->Heap->Prop):Prop where
 mem:it∈fp
 obj:∀i h,tn i h->∀b∈fp,∃o,h.get? b=some o/\∀v,o.data≠.cell v
 keep:∀i h h',tn i h->(∀b∈fp,∀o,h.get? b=some o->h'.get? b=some o)->tn i h'
 item:∀(X:Cx),X.prog=P->X.w=w->X.K=K->X.calm=true->∀(i:Nat) (pins:zAO) (s:Shared) (σ:St) (H:Hp) (E:zVP),Inv X pins σ H s->(∀b∈fp,zm8 X pins H b)->tn i s.heap->J.go i H ->
   wpAny (model P w) X.A (pyNext (.ref it)) (fun r s1=>∃u,r=some u /\
     wpAny (model P w) X.A (letOwnedTupleGo tg (.ref it) u) (fun _ s2=>∃x H',Inv X pins σ H' s2/\RelV x u/\J.yld i H x H'/\tn (i+1) s2.heap/\∀b∈fp,H' b=none) E s1) E s
 done:∀(X:Cx),X.prog=P->X.w=w->X.K=K->X.calm=true->∀(i:Nat) (pins:zAO) (s:Shared) (σ:St) (H:Hp) (E:zVP),Inv X pins σ H s->(∀b∈fp,zm8 X pins H b)->tn i s.heap->J.stop i H ->
   wpAny (model P w) X.A (pyNext (.ref it)) (fun r s1=>r=none/\Inv X pins σ H s1) E s
 self:∀(A:Around) (i:Nat) (s:Shared) (Q:zVP) (E:zVP),tn i s.heap->Q (.ref it) s->wpAny (model P w) A (pyIter (.ref it)) Q E s
abbrev TI:=St->Hp->(It->Hp->Prop)->Prop
def PIE(X:Cx)(pins:zAO)(σ:St)(tg:Expr)(R:It->Hp->Prop)(itv:Value)(s2:Shared):Prop :=
 ∃(it:Addr) (fp:List Addr) (tn:Nat->Heap->Prop) (J:It) (H':Hp),itv=.ref it/\Inv X pins σ H' s2/\Turn X.prog X.w X.K tg J fp it tn/\tn 0 s2.heap/\(∀b∈fp,zm8 X pins H' b)/\R J H'
def PI(X:Cx)(tg iter:Expr)(wi:TI):Prop :=
 ∀(pins:zAO) (s:Shared) (σ:St) (H:Hp) (R:It->Hp->Prop),Inv X pins σ H s->wi σ H R ->
   wpAny (model X.prog X.w) X.A (eval iter X.env) (fun v s1=>wpAny (model X.prog X.w) X.A (pyIter v) (PIE X pins σ tg R) X.xe s1) X.xe s
theorem zwe{M:Model}{A:Around}{E:zVP}{s:Shared}{tg:Expr}{it:Addr}{u:Value}{o:Obj}{n:String}{vs:Array Value}{Q:Unit->Shared->Prop}(ho:s.heap.get? it=some o)(hc:o.cls=.type n)(hd:o.data=.fields vs)
   (hn:["enumerate", "zip", "dict_itemiterator", "dict_reverseitemiterator", "odict_iterator", "itertools.zip_longest", "itertools.pairwise"].contains n=false) (hQ:Q () s):wpAny M A (letOwnedTupleGo tg (.ref it) u) Q E s:=by
 unfold letOwnedTupleGo;cases tg<;>first
   |exact z7g hQ
   | (cases u<;>first
       |exact z7g hQ
       | (refine z6m (wpAny_load ho ?_)
          rw[hc,hd];show wpAny M A (if(["enumerate", "zip", "dict_itemiterator", "dict_reverseitemiterator", "odict_iterator", "itertools.zip_longest", "itertools.pairwise"].contains n&&vs[0]?==some (rawInt _))=true then _ else _) Q E s;rw[z7a (by intro h;rw[hn,Bool.false_and]at h;cases h)];exact z7g hQ))
def Itl(K:zFr)(a:Addr):It :=
 ⟨fun i H=>∃xs x,SqL K H a xs/\xs[i]? = some x,fun i H x H'=>H'=H/\∀xs,SqL K H a xs->xs[i]? = some x,fun i H=>∃xs,SqL K H a xs/\xs.length<=i⟩
def Itt(K:zFr)(a:Addr):It :=
 ⟨fun i H=>∃xs x,SqT K H a xs/\xs[i]? = some x,fun i H x H'=>H'=H/\∀xs,SqT K H a xs->xs[i]? = some x,fun i H=>∃xs,SqT K H a xs/\xs.length<=i⟩
def Itr(lo:Int)(n:Nat):It:=⟨fun i _=>i<n,fun i H x H'=>H'=H/\x=.int (lo+i),fun i _=>n<=i⟩
theorem znk{P:Program}{w:World}{K:zFr}{tg:Expr}(a it:Addr):Turn P w K tg (Itl K a) [it] it (fun i h=>h.IsListIter it a i) where
 mem:=by simp
 obj:=fun i h st b hb=>by
   have e:b=it:=by simpa using hb
   subst e;obtain⟨o,e,c,d⟩:=st;exact⟨o,e,fun v z=>by rw[d]at z;cases z⟩
 keep:=fun i h h' st k=>st.at fun o e=>k it (by simp) o e
 item:=by intro X hP hw hK hc i pins s σ H E I hf st hg;subst hP hw hK;obtain⟨xs,x,hq,hx⟩:=hg;obtain⟨its,rv,p,hz⟩:=I.list hq;obtain⟨u,hu,ru⟩:=rv.get hx;obtain⟨f0,f1,f2,f3,f4,f5⟩:=hf it (by simp);refine wpAny_pyNext_list_item st p.isList (x:=u) (by simpa using hu) fun h' st' sb=>?_;have I1:Inv X pins σ H { s with heap:=h' }:=I.turned (t':=s.toks) (fun b o hb e=>(sb.2 b hb).trans e) f0 f1 f3 f4 f5;obtain⟨o,e,c,d⟩:=id st';exact⟨u,rfl,zwe (s:={ s with heap:=h' }) e c d (by decide) ⟨x,H,I1,ru,⟨rfl,fun ys hy=>by rw[I.list_inj hy hq];exact hx⟩,st',fun b hb=>(hf b hb).1⟩⟩
 done:=by intro X hP hw hK hc i pins s σ H E I hf st hg;subst hP hw hK;obtain⟨xs,hq,hx⟩:=hg;obtain⟨its,rv,p,hz⟩:=I.list hq;obtain⟨f0,f1,f2,f3,f4,f5⟩:=hf it (by simp);have hl:=rv.length;exact wpAny_pyNext_list_end (I.ok.hd hc) st p.isList (by simp;omega) fun h' eb=>⟨rfl,I.turned (t':=s.toks) (fun b o hb e=>eb b o hb e) f0 f1 f3 f4 f5⟩
 self:=fun _ _ _ _ _ st h=>wpAny_pyIter_listiter st h
theorem zlr{P:Program}{w:World}{K:zFr}{tg:Expr}(a it:Addr):Turn P w K tg (Itt K a) [it] it (fun i h=>h.IsTupleIter it a i) where
 mem:=by simp
 obj:=fun i h st b hb=>by
   have e:b=it:=by simpa using hb
   subst e;obtain⟨o,e,c,d⟩:=st;exact⟨o,e,fun v z=>by rw[d]at z;cases z⟩
 keep:=fun i h h' st k=>st.at fun o e=>k it (by simp) o e
 item:=by intro X hP hw hK hc i pins s σ H E I hf st hg;subst hP hw hK;obtain⟨xs,x,hq,hx⟩:=hg;obtain⟨its,rv,p,hz⟩:=I.tuple hq;obtain⟨u,hu,ru⟩:=rv.get hx;obtain⟨f0,f1,f2,f3,f4,f5⟩:=hf it (by simp);refine wpAny_pyNext_tuple_item st (show s.heap.IsTuple a its.toArray from p) (x:=u) (by simpa using hu) fun h' st' sb=>?_;have I1:Inv X pins σ H { s with heap:=h' }:=I.turned (t':=s.toks) (fun b o hb e=>(sb.2 b hb).trans e) f0 f1 f3 f4 f5;obtain⟨o,e,c,d⟩:=id st';exact⟨u,rfl,zwe (s:={ s with heap:=h' }) e c d (by decide) ⟨x,H,I1,ru,⟨rfl,fun ys hy=>by rw[I.tuple_inj hy hq];exact hx⟩,st',fun b hb=>(hf b hb).1⟩⟩
 done:=by intro X hP hw hK hc i pins s σ H E I hf st hg;subst hP hw hK;obtain⟨xs,hq,hx⟩:=hg;obtain⟨its,rv,p,hz⟩:=I.tuple hq;obtain⟨f0,f1,f2,f3,f4,f5⟩:=hf it (by simp);have hl:=rv.length;exact wpAny_pyNext_tuple_end (I.ok.hd hc) st (show s.heap.IsTuple a its.toArray from p) (by simp;omega) fun h' eb=>⟨rfl,I.turned (t':=s.toks) (fun b o hb e=>eb b o hb e) f0 f1 f3 f4 f5⟩
 self:=fun _ _ _ _ _ st h=>wpAny_pyIter_tupleiter st h
theorem zls{P:Program}{w:World}{K:zFr}{tg:Expr}(it:Addr)(lo:Int)(n:Nat):Turn P w K tg (Itr lo n) [it] it (fun i h=>IsRangeIter h it (lo+(i:Nat)*1) ((n:Int)-(i:Nat)) 1) where
 mem:=by simp
 obj:=fun i h st b hb=>by
   have e:b=it:=by simpa using hb
   subst e;exact⟨_,st,fun v z=>by
     have z':Data.fields _=Data.cell v:=z;cases z'⟩
 keep:=fun i h h' st k=>k it (by simp) _ st
 item:=by intro X hP hw hK hc i pins s σ H E I hf st hg;subst hP hw hK;obtain⟨f0,f1,f2,f3,f4,f5⟩:=hf it (by simp);have W:=Walks.range (prog:=X.prog) (w:=X.w) (I.ok.hd hc) it lo 1 n;refine W.item i s _ _ hg st fun v h' tk hv st' kk=>?_;obtain⟨t,rfl⟩:=hv;have I1:Inv X pins σ H { s with heap:=h',toks:=tk }:=I.turned (fun b o hb e=>kk b o (by simpa using hb) e) f0 f1 f3 f4 f5;refine⟨_,rfl,zwe (s:={ s with heap:=h',toks:=tk }) (n:="range_iterator") st' rfl rfl (by decide) ⟨.int (lo+i),H,I1,⟨t,?_⟩,⟨rfl,rfl⟩,st',fun b hb=>(hf b hb).1⟩⟩;rw[Int.mul_one]
 done:=by intro X hP hw hK hc i pins s σ H E I hf st hg;subst hP hw hK;obtain⟨f0,f1,f2,f3,f4,f5⟩:=hf it (by simp);exact wpAny_pyNext_range_end (I.ok.hd hc) st (by have:n<=i:=hg;omega) fun h' eb=>⟨rfl,I.turned (t':=s.toks) (fun b o hb e=>eb b o hb e) f0 f1 f3 f4 f5⟩
 self:=fun _ _ _ _ _ st h=>wpAny_pyIter_rangeiter st h
section
variable {X:Cx}{tg:Expr}
def z3d(K:zFr)(tl:TE):TI:=fun σ H R=>tl σ H fun x H1=>∃a,x=.ref a/\(∃xs,SqL K H1 a xs)/\R (Itl K a) H1
def z55(K:zFr)(tl:TE):TI:=fun σ H R=>tl σ H fun x H1=>∃a,x=.ref a/\(∃xs,SqT K H1 a xs)/\R (Itt K a) H1
theorem zfx{l:Expr}{tl:TE}(hl:PE X l tl):PI X tg l (z3d X.K tl):=by
 intro pins s σ H R I h;refine thn (hl pins s σ H _ I h) fun v s1 ⟨x,H1,I1,r1,q1⟩=>?_;obtain⟨a,e,⟨xs,hq⟩,q⟩:=q1;subst e;cases r1;obtain⟨its,rv,p,hz⟩:=I1.list hq;refine wpAny_pyIter_list p.isList ?_;refine⟨s1.heap.objs.size,[s1.heap.objs.size],_,_,H1,rfl,I1.kept (t':=s1.toks) fun b o e=>z6u _ e,znk a _,⟨_,z7j _ rfl,rfl,rfl⟩,fun b hb=>?_,q⟩;have e:b=s1.heap.objs.size:=by simpa using hb
 subst e;exact I1.fpOk (z6l _) (I1.hok.fresh (z6l _))
theorem zyt{l:Expr}{tl:TE}(hl:PE X l tl):PI X tg l (z55 X.K tl):=by
 intro pins s σ H R I h;refine thn (hl pins s σ H _ I h) fun v s1 ⟨x,H1,I1,r1,q1⟩=>?_;obtain⟨a,e,⟨xs,hq⟩,q⟩:=q1;subst e;cases r1;obtain⟨its,rv,p,hz⟩:=I1.tuple hq;refine wpAny_pyIter_tuple (show s1.heap.IsTuple a its.toArray from p) ?_;refine⟨s1.heap.objs.size,[s1.heap.objs.size],_,_,H1,rfl,I1.kept (t':=s1.toks) fun b o e=>z6u _ e,zlr a _,⟨_,z7j _ rfl,rfl,rfl⟩,fun b hb=>?_,q⟩;have e:b=s1.heap.objs.size:=by simpa using hb
 subst e;exact I1.fpOk (z6l _) (I1.hok.fresh (z6l _))
theorem zrp{pins:zAO}{σ:St}{H:Hp}{s:Shared}{R:It->Hp->Prop}{E:zVP}{lo hi:Int}{t u v:Tok}{tk:Nat}(I:Inv X pins σ H s)(h1:-(2^62)<=lo)(h2:lo<2^62)(h3:-(2^62)<=hi)(h4:hi<2^62)
   (q:R (Itr lo (hi-lo).toNat) H):wpAny (model X.prog X.w) X.A (pyIter (.ref s.heap.objs.size)) (PIE X pins σ tg R) E { s with heap:=s.heap.push { cls:=.type "range",data:=.fields #[.int lo t,.int hi u,.int 1 v] },toks:=tk }:=by
 refine wpAny_pyIter_range (IsRange.new ..) (small_one h1 h2 h3 h4) ?_;have I1:Inv X pins σ H { s with heap:=s.heap.push { cls:=.type "range",data:=.fields #[.int lo t,.int hi u,.int 1 v] },toks:=tk }:=I.kept fun b o e=>z6u _ e;refine⟨(s.heap.push { cls:=.type "range",data:=.fields #[.int lo t,.int hi u,.int 1 v] }).objs.size,[(s.heap.push { cls:=.type "range",data:=.fields #[.int lo t,.int hi u,.int 1 v] }).objs.size],_,_,H,rfl,
   I1.kept (t':=tk) fun b o e=>z6u _ e,zls _ lo (hi-lo).toNat,?_,fun b hb=>?_,q⟩
 · have e1:lo+((0:Nat):Int)*1=lo:=by simp
   have e2:(((hi-lo).toNat:Nat):Int)-((0:Nat):Int)=Builtin.Range.rangeSize lo hi 1:=by rw[rangeSize_one];split<;>omega
   show IsRangeIter _ _ (lo+((0:Nat):Int)*1) ((((hi-lo).toNat:Nat):Int)-((0:Nat):Int)) 1;rw[e1,e2];exact z7j _ rfl
 · have e:b=(s.heap.push { cls:=.type "range",data:=.fields #[.int lo t,.int hi u,.int 1 v] }).objs.size:=by simpa using hb
   subst e;exact I1.fpOk (z6l _) (I1.hok.fresh (z6l _))
def z3c(ta:TA):TI:=fun σ H R=>ta σ H fun vs H1=>∃j:Int,vs=[.int j]/\-(2^62)<=j/\j<2^62/\R (Itr 0 j.toNat) H1
theorem zhf{a:Expr}{ta:TA}{p pos:Pos}(hg:Gl X "range")(hm:X.mg "range"=none)(ha:PA X [a] ta)(hs:starEach [a] X.env=[(false,eval a X.env)]:=by rfl):PI X tg (.Call (.Name "range" p) [a] [] pos) (z3c ta):=by
 intro pins s σ H R I h;refine Call_ (zdw I hg hm boot_range (z9e (thn (ha pos pins s σ H _ I h) fun us s1 ⟨vs,H1,I1,r1,q1⟩=>?_) hs rfl));obtain⟨j,e,q1,q2,q⟩:=q1;subst e;cases r1 with
 | cons r rr=>
   cases rr;obtain⟨t,rfl⟩:=r;exact call_range_1 (zrp I1 (by omega) (by omega) q1 q2 (by simpa using q))
def z5j(wi:TI)(g:TG)(tb:TS):TS:=fun D σ H=>wi σ H fun J H1=>∃W:Nat->Nat->St->Hp->Prop,(∃m,W 0 m σ H1)/\∀i m σ H,W i m σ H ->
 (J.stop i H/\D.nx σ H)\/(J.go i H/\∃N:St->Hp->Prop,(∀σ' H',N σ' H'->∃m',m'<m/\W (i+1) m' σ' H')/\∀x H',J.yld i H x H'->g x σ H' fun σ2 H2=>tb { D with nx:=N,ct:=N,bk:=D.nx } σ2 H2)
def zkm(fp:List Addr)(h:Heap):zAO:=fp.filterMap fun b=>(h.get? b).map fun o=>(b,o)
theorem yd{fp:List Addr}{h:Heap}{b:Addr}{o:Obj}(hb:b∈fp)(e:h.get? b=some o):(b,o)∈zkm fp h:=List.mem_filterMap.mpr ⟨b,hb,by rw[e];rfl⟩
theorem zov{fp:List Addr}{h:Heap}{p:Addr×Obj}(hp:p∈zkm fp h):p.1∈fp/\h.get? p.1=some p.2:=by
 obtain⟨b,hb,e⟩:=List.mem_filterMap.mp hp;cases q:h.get? b with
 |none=>rw[q]at e;cases e
 | some o=>
   rw[q]at e;have e':(b,o)=p:=z7s e;subst e';exact⟨hb,q⟩
theorem Inv.pinned{pins:zAO}{σ:St}{H:Hp}{s:Shared}{fp:List Addr}(I:Inv X pins σ H s)(hf:∀b∈fp,zm8 X pins H b)(ho:∀b∈fp,∃o,s.heap.get? b=some o/\∀v,o.data≠.cell v):Inv X (pins++zkm fp s.heap) σ H s :=
 I.pins_of fun p hp=>(z62.mp hp).elim (fun z=>I.pin p (z6x _ z)) fun z=>by obtain⟨hb,e⟩:=zov z;obtain⟨f0,f1,f2,_⟩:=hf p.1 hb;obtain⟨o,e',d⟩:=ho p.1 hb;rw[e]at e';cases e';exact⟨e,f0,f1,f2,d⟩
theorem Inv.unpinned{pins pl:zAO}{σ:St}{H:Hp}{s:Shared}(I:Inv X (pins++pl) σ H s):Inv X pins σ H s:=I.pins_of fun p hp=>I.pin p (z6x _ (z7y _ hp))
theorem zog{iter:Expr}{body:List Stmt}{wi:TI}{g:TG}{tb:TS}{pos:Pos}(hp:PassesOwn (model X.prog X.w) X.A X.env X.xe)(hc:X.calm=true)(hi:PI X tg iter wi)(hg:PG X tg g)(hb:PSs X body tb)
   (hs:∀x,foldedSetIterable iter X.env x=pure x:=by intro _;rfl):PS X (.For tg iter body [] pos) (z5j wi g tb):=by
 intro pins s σ H D I h;refine wpAny_For (thn (hi pins s σ H _ I h) fun v s1 h1=>thn h1 fun itv s2 h2=>?_) hs;obtain⟨it,fp,tn,J,H2,e,I2,T,st2,f2,W,⟨m0,w0⟩,turn⟩:=h2;subst e;have stat:∀{H':Hp},(∀b∈fp,H' b=none)->∀b∈fp,zm8 X pins H' b:=fun hn b hb=>⟨hn b hb,(f2 b hb).2⟩
 refine codeAny_forLoop_any (fun n s'=>∃i σ' H',Inv X pins σ' H' s'/\tn i s'.heap/\(∀b∈fp,H' b=none)/\W i n σ' H') ?_ m0 ⟨0,σ,H2,I2,st2,fun b hb=>(f2 b hb).1,w0⟩;rintro n s3 ⟨i,σ3,H3,I3,st3,fr3,w3⟩;rcases turn i n σ3 H3 w3 with⟨stop,qn⟩ | ⟨go,N,hN,step⟩
 · refine z9o hp (thn (T.done X rfl rfl rfl hc i pins s3 σ3 H3 X.xe I3 (stat fr3) st3 stop) fun r s4 ⟨hr,I4⟩=>?_);subst hr;exact qbb ⟨σ3,H3,I4,qn⟩
 · refine z9o hp (thn (T.item X rfl rfl rfl hc i pins s3 σ3 H3 X.xe I3 (stat fr3) st3 go) fun r s4 ⟨u,hr,h4⟩=>?_);subst hr;refine z9o hp (thn h4 fun _ s5 ⟨x,H5,I5,r5,y5,st5,fr5⟩=>?_);have I5':=I5.pinned (stat fr5) (T.obj _ _ st5);refine z9o hp (thn (hg _ s5 σ3 H5 x u _ I5' r5 (step x H5 y5)) fun _ s6 ⟨σ6,H6,I6,q6⟩=>?_);refine z9o hp (thn (hb _ s6 σ6 H6 _ I6 q6) fun f s7 q7=>?_);have again:∀{σ7:St}{H7:Hp},Inv X (pins++zkm fp s5.heap) σ7 H7 s7->N σ7 H7->∃m,m<n/\∃i σ' H',Inv X pins σ' H' s7/\tn i s7.heap/\(∀b∈fp,H' b=none)/\W i m σ' H':=fun {σ7 H7} I7 n7=>by obtain⟨m',hm,w7⟩:=hN σ7 H7 n7;refine⟨m',hm,i+1,σ7,H7,I7.unpinned,T.keep _ _ _ st5 fun b hb o e=>(I7.pin (b,o) (z6x _ (z6x _ (yd hb e)))).1,fun b hb=>?_,w7⟩;obtain⟨o,e,d⟩:=T.obj _ _ st5 b hb;exact(I7.pin (b,o) (z6x _ (z6x _ (yd hb e)))).2.1
   cases f with
   |next=>obtain⟨σ7,H7,I7,n7⟩:=q7;exact again I7 n7
   |cont=>obtain⟨σ7,H7,I7,n7⟩:=q7;exact again I7 n7
   |brk=>obtain⟨σ7,H7,I7,q7⟩:=q7;exact⟨σ7,H7,I7.unpinned,q7⟩
   |ret v=>obtain⟨x7,σ7,H7,I7,r7,q7⟩:=q7;exact⟨x7,σ7,H7,I7.unpinned,r7,q7⟩
end
theorem zsg{K:zFr}{a:Addr}{xs:List V}{g:TG}{tb:TS}{D:Ends}{σ:St}{H:Hp}(Pv:Nat->St->Hp->Prop)(h0:Pv 0 σ H)(hl:∀i σ H,i<=xs.length->Pv i σ H->SqL K H a xs)
   (hs:∀i x σ H,xs[i]? = some x->Pv i σ H->g x σ H fun σ2 H2=>tb { D with nx:=Pv (i+1),ct:=Pv (i+1),bk:=D.nx } σ2 H2) (hd:∀σ H,Pv xs.length σ H->D.nx σ H) :
   ∃W:Nat->Nat->St->Hp->Prop,(∃m,W 0 m σ H)/\∀i m σ H,W i m σ H ->
     ((Itl K a).stop i H/\D.nx σ H)\/((Itl K a).go i H/\∃N:St->Hp->Prop,(∀σ' H',N σ' H'->∃m',m'<m/\W (i+1) m' σ' H')/\∀x H',(Itl K a).yld i H x H'->g x σ H' fun σ2 H2=>tb { D with nx:=N,ct:=N,bk:=D.nx } σ2 H2):=by
 refine⟨fun i m σ H=>m=xs.length-i/\i<=xs.length/\Pv i σ H,⟨xs.length,by simp,z7k _,h0⟩,?_⟩;rintro i m σ H ⟨rfl,hi,p⟩;have q:=hl i σ H hi p;by_cases hlt:i<xs.length
 · refine .inr ⟨⟨xs,xs[i],q,by simp[hlt]⟩,Pv (i+1),fun σ' H' p'=>⟨xs.length-(i+1),by omega,rfl,hlt,p'⟩,fun x H' y=>?_⟩;obtain⟨e,y⟩:=y;subst e;exact hs i x σ _ (y xs q) p
 · have e:i=xs.length:=by omega
   subst e;exact .inl ⟨⟨xs,q,z6l _⟩,hd σ H p⟩
theorem zpx{lo:Int}{n:Nat}{g:TG}{tb:TS}{D:Ends}{σ:St}{H:Hp}(Pv:Nat->St->Hp->Prop)(h0:Pv 0 σ H)
   (hs:∀i σ H,i<n->Pv i σ H->g (.int (lo+i)) σ H fun σ2 H2=>tb { D with nx:=Pv (i+1),ct:=Pv (i+1),bk:=D.nx } σ2 H2) (hd:∀σ H,Pv n σ H->D.nx σ H) :
   ∃W:Nat->Nat->St->Hp->Prop,(∃m,W 0 m σ H)/\∀i m σ H,W i m σ H ->
     ((Itr lo n).stop i H/\D.nx σ H)\/((Itr lo n).go i H/\∃N:St->Hp->Prop,(∀σ' H',N σ' H'->∃m',m'<m/\W (i+1) m' σ' H')/\∀x H',(Itr lo n).yld i H x H'->g x σ H' fun σ2 H2=>tb { D with nx:=N,ct:=N,bk:=D.nx } σ2 H2):=by
 refine⟨fun i m σ H=>m=n-i/\i<=n/\Pv i σ H,⟨n,by simp,z7k _,h0⟩,?_⟩;rintro i m σ H ⟨rfl,hi,p⟩;by_cases hlt:i<n
 · refine .inr ⟨hlt,Pv (i+1),fun σ' H' p'=>⟨n-(i+1),by omega,rfl,hlt,p'⟩,fun x H' y=>?_⟩;obtain⟨e,y⟩:=y;subst e y;exact hs i σ _ hlt p
 · have e:i=n:=by omega
   subst e;exact .inl ⟨z6l _,hd σ H p⟩
abbrev R2:=V->V->Hp->VK->Prop
def OpR(X:Cx)(f:Value->Value->Sem Value)(r:R2):Prop :=
 ∀(pins:zAO) (s:Shared) (σ:St) (H:Hp) (x y:V) (v u:Value) (Q:VK),Inv X pins σ H s->RelV x v->RelV y u->r x y H Q ->
   wpAny (model X.prog X.w) X.A (f v u) (EP X pins σ Q) X.xe s
def CallR(X:Cx)(f:Value)(r:List V->Hp->VK->Prop):Prop :=
 ∀(pins:zAO) (s:Shared) (σ:St) (H:Hp) (xs:List V) (us:List Value) (Q:VK),Inv X pins σ H s->Vals xs us->r xs H Q ->
   wpAny (model X.prog X.w) X.A (call f us) (EP X pins σ Q) X.xe s
def tOp(r:R2)(ta tb:TE):TE:=fun σ H Q=>ta σ H fun x H1=>tb σ H1 fun y H2=>r x y H2 Q
def rI(C:Int->Int->Prop)(g:Int->Int->V):R2:=fun x y H Q=>∃i j,x=.int i/\y=.int j/\C i j/\Q (g i j) H
def rI0(g:Int->Int->V):R2:=fun x y H Q=>∃i j,x=.int i/\y=.int j/\Q (g i j) H
section
variable {X:Cx}{a b c:Expr}{ta tb tc:TE}{pos:Pos}
theorem z3y(ha:PE X a ta)(hb:PE X b tb){pins:zAO}{s:Shared}{σ:St}{H:Hp}{R:V->V->Hp->Prop}(I:Inv X pins σ H s)
   (h:ta σ H fun x H1=>tb σ H1 fun y H2=>R x y H2) {Q:zVP}{f:Value->Value->Sem Value}
   (hf:∀v u s2 x y H2,Inv X pins σ H2 s2->RelV x v->RelV y u->R x y H2->wpAny (model X.prog X.w) X.A (f v u) Q X.xe s2) :
   wpAny (model X.prog X.w) X.A (eval a X.env) (fun v s₁=>wpAny (model X.prog X.w) X.A (eval b X.env) (fun u s₂=>wpAny (model X.prog X.w) X.A (f v u) Q X.xe s₂) X.xe s₁) X.xe s:=by
 refine thn (ha pins s σ H _ I h) fun v s1 ⟨x,H1,I1,r1,q1⟩=>?_;refine thn (hb pins s1 σ H1 _ I1 q1) fun u s2 ⟨y,H2,I2,r2,q2⟩=>?_;exact hf v u s2 x y H2 I2 r1 r2 q2
theorem zyy{op:Operator}{r:R2}(ho:OpR X (binaryOp op) r)(ha:PE X a ta)(hb:PE X b tb):PE X (.BinOp a op b pos) (tOp r ta tb):=by intro pins s σ H Q I h;exact wpAny_BinOp (z3y ha hb I h fun v u s2 x y H2 I2 rx ry q=>ho pins s2 σ H2 x y v u Q I2 rx ry q)
theorem opI{f:Value->Value->Sem Value}{C:Int->Int->Prop}{g:Int->Int->Int}
   (rule:∀(i j:Int) (t u:Tok) (s:Shared) (Q:zVP) (E:zVP),C i j->Q (.int (g i j) s.toks) { s with toks:=s.toks+1 }->wpAny (model X.prog X.w) X.A (f (.int i t) (.int j u)) Q E s) :
   OpR X f (rI C fun i j=>.int (g i j)):=by
 intro pins s σ H x y v u Q I rx ry h;obtain⟨i,j,rfl,rfl,hc,q⟩:=h;obtain⟨t,rfl⟩:=rx;obtain⟨t',rfl⟩:=ry;exact rule i j t t' s _ _ hc ⟨.int (g i j),H,I.tok _,⟨_,rfl⟩,q⟩
theorem z4r{f:Value->Value->Sem Value}{g:Int->Int->Int}
   (rule:∀(i j:Int) (t u:Tok) (s:Shared) (Q:zVP) (E:zVP),Q (.int (g i j) s.toks) { s with toks:=s.toks+1 }->wpAny (model X.prog X.w) X.A (f (.int i t) (.int j u)) Q E s) :
   OpR X f (rI0 fun i j=>.int (g i j)):=by
 intro pins s σ H x y v u Q I rx ry h;obtain⟨i,j,rfl,rfl,q⟩:=h;obtain⟨t,rfl⟩:=rx;obtain⟨t',rfl⟩:=ry;exact rule i j t t' s _ _ ⟨.int (g i j),H,I.tok _,⟨_,rfl⟩,q⟩
theorem z1q{f:Value->Value->Sem Value}{g:Int->Int->Bool}
   (rule:∀(i j:Int) (t u:Tok) (s:Shared) (Q:zVP) (E:zVP),Q (.bool (g i j)) s->wpAny (model X.prog X.w) X.A (f (.int i t) (.int j u)) Q E s) :
   OpR X f (rI0 fun i j=>.bl (g i j)):=by
 intro pins s σ H x y v u Q I rx ry h;obtain⟨i,j,rfl,rfl,q⟩:=h;obtain⟨t,rfl⟩:=rx;obtain⟨t',rfl⟩:=ry;exact rule i j t t' s _ _ ⟨.bl (g i j),H,I,rfl,q⟩
def z6j(i j:Int):Prop:=0<j/\j<1073741824
def z6i(i j:Int):Prop:=0<=j/\j<=1000000/\i.natAbs<2^64
def CMul(i j:Int):Prop:=(-(2^64)<i/\i<2^64)\/(-(2^64)<j/\j<2^64)
theorem CMul.ok{i j:Int}(h:CMul i j):IntMulOk i j:=by
 rcases h with⟨h1,h2⟩ | ⟨h1,h2⟩
 · exact .of_left (intBits_le_64 h1 h2)
 · exact .of_right (intBits_le_64 h1 h2)
theorem op_add:OpR X (binaryOp .Add) (rI0 fun i j=>.int (i+j)):=z4r fun _ _ _ _ _ _ _ q=>add_int q
theorem zy8:OpR X (binaryOp .Sub) (rI0 fun i j=>.int (i-j)):=z4r fun _ _ _ _ _ _ _ q=>sub_int q
theorem zvu:OpR X (binaryOp .FloorDiv) (rI z6j fun i j=>.int (i/j)):=opI fun i j _ _ _ _ _ hc q=>by have h1:(0:Int)<j:=hc.1;have h2:j<1073741824:=hc.2;exact floordiv_int (by omega) (by rw[Int.fdiv_eq_ediv_of_nonneg i (by omega)];exact q) (.inl (PyProof.noPylong_small (by omega)))
theorem zza:OpR X (binaryOp .Mod) (rI (fun _ j=>0<j) fun i j=>.int (i%j)):=opI fun i j _ _ _ _ _ hc q=>by have h1:(0:Int)<j:=hc;exact mod_int' (by omega) (by rw[Int.fmod_eq_emod_of_nonneg i (by omega)];exact q)
theorem zy9:OpR X (binaryOp .Pow) (rI z6i fun i j=>.int (i^j.toNat)):=opI fun _ _ _ _ _ _ _ hc q=>pow_int_small hc.1 hc.2.1 hc.2.2 q
end
section
variable {X:Cx}{a b c:Expr}{ta tb tc:TE}{pos:Pos}
theorem zp2{pins:zAO}{σ:St}{H:Hp}{s:Shared}{Q:VK}{k k':Bool}(I:Inv X pins σ H s)(q:Q (.bl k) H)(e:k=k'):EP X pins σ Q (.bool k') s:=by subst e;exact⟨.bl k,H,I,rfl,q⟩
theorem zr1:OpR X (compareOp .Lt) (rI0 fun i j=>.bl (decide (i<j))):=z1q fun _ _ _ _ _ _ _ q=>lt_int q
theorem zl6:OpR X (compareOp .LtE) (rI0 fun i j=>.bl (decide (i<=j))):=z1q fun _ _ _ _ _ _ _ q=>le_int q
theorem z2x:OpR X (compareOp .Gt) (rI0 fun i j=>.bl (decide (j<i))):=z1q fun _ _ _ _ _ _ _ q=>gt_int q
theorem z2y:OpR X (compareOp .GtE) (rI0 fun i j=>.bl (decide (j<=i))):=z1q fun _ _ _ _ _ _ _ q=>ge_int q
theorem zor:OpR X (compareOp .Lt) (fun x y H Q=>∃i j,x=.str i/\y=.str j/\Q (.bl (decide (i.cps.toList<j.cps.toList))) H):=by intro pins s σ H x y v u Q I rx ry h;obtain⟨i,j,rfl,rfl,q⟩:=h;obtain⟨t,rfl⟩:=rx;obtain⟨t',rfl⟩:=ry;exact lt_str (zp2 I q rfl)
theorem op_isN:OpR X (compareOp .Is) (fun x y H Q=>y=.non/\Q (.bl (decide (x=.non))) H):=by
 intro pins s σ H x y v u Q I rx ry h;obtain⟨rfl,q⟩:=h;cases ry;refine is_none_gen (zp2 I q ?_);cases x<;>first
   | (cases rx;rfl)
   | (obtain⟨t,rfl⟩:=rx;rfl)
theorem op_notN:OpR X (compareOp .IsNot) (fun x y H Q=>y=.non/\Q (.bl (!decide (x=.non))) H):=by
 intro pins s σ H x y v u Q I rx ry h;obtain⟨rfl,q⟩:=h;cases ry;refine isnot_none_gen (zp2 I q ?_);cases x<;>first
   | (cases rx;rfl)
   | (obtain⟨t,rfl⟩:=rx;rfl)
theorem OpR.or{f:Value->Value->Sem Value}{r r':R2}(h:OpR X f r)(h':OpR X f r'):OpR X f (fun x y H Q=>r x y H Q\/r' x y H Q):=by
 intro pins s σ H x y v u Q I rx ry q;rcases q with q | q
 · exact h pins s σ H x y v u Q I rx ry q
 · exact h' pins s σ H x y v u Q I rx ry q
theorem yo(b:Expr){op:CmpOp}(h:op≠.In:=by decide)(h2:op≠.NotIn:=by decide):behindInMarks op b=false:=by
 have e1:(op==CmpOp.In)=false:=by cases op<;>first | rfl | exact absurd rfl h
 have e2:(op==CmpOp.NotIn)=false:=by cases op<;>first | rfl | exact absurd rfl h2
 cases b<;>simp[behindInMarks,e1,e2]
theorem zvq{op:CmpOp}{r:R2}(ho:OpR X (compareOp op) r)(ha:PE X a ta)(hb:PE X b tb)(hm:behindInMarks op b=false):PE X (.Compare a [op] [b] pos) (tOp r ta tb):=by intro pins s σ H Q I h;exact wpAny_Compare1 (z3y ha hb I h fun v u s2 x y H2 I2 rx ry q=>ho pins s2 σ H2 x y v u Q I2 rx ry q) hm
def zq9(t:TE):TT:=fun σ H Q=>t σ H fun x H'=>∃k,x=.bl k/\Q k H'
theorem zvf{op:CmpOp}{r:R2}(ho:OpR X (compareOp op) r)(ha:PE X a ta)(hb:PE X b tb)(hm:behindInMarks op b=false):PT X (.Compare a [op] [b] pos) (zq9 (tOp r ta tb)):=by
 intro pins s σ H Q I h;refine wpAny_isTrue_Compare1 (thn (ha pins s σ H _ I h) fun v s1 ⟨x,H1,I1,r1,q1⟩=>thn (hb pins s1 σ H1 _ I1 q1) fun u s2 ⟨y,H2,I2,r2,q2⟩=>
   thn (ho pins s2 σ H2 x y v u _ I2 r1 r2 q2) fun c s3 ⟨z,H3,I3,r3,k,e,q3⟩=>?_) hm
 subst e;cases r3;exact z8a ⟨H3,I3,q3⟩
def zth(r r':R2)(ta tb tc:TE):TE:=fun σ H Q=>ta σ H fun x H1=>tb σ H1 fun y H2=>r x y H2 fun z H3=>∃k,z=.bl k /\
 (if k=true then tc σ H3 fun w' H4=>r' y w' H4 Q else Q (.bl false) H3)
theorem zrr{op op':CmpOp}{r r':R2}(ho:OpR X (compareOp op) r)(ho':OpR X (compareOp op') r')(ha:PE X a ta)(hb:PE X b tb)(hc:PE X c tc)
   (hm:lastMarks [op,op'] [b,c]=false:=by with_unfolding_all rfl):PT X (.Compare a [op,op'] [b,c] pos) (zq9 (zth r r' ta tb tc)):=by
 intro pins s σ H Q I h;refine isTrue_chain (thn (ha pins s σ H _ I h) fun v s1 ⟨x,H1,I1,r1,q1⟩=>test_link (thn (hb pins s1 σ H1 _ I1 q1) fun u s2 ⟨y,H2,I2,r2,q2⟩=>
   thn (ho pins s2 σ H2 x y v u _ I2 r1 r2 q2) fun d s3 ⟨z,H3,I3,r3,k,e,q3⟩=>?_)) hm
 subst e;cases r3;refine z8a ?_;cases k with
 | false=>
   obtain⟨k',e',q'⟩:=q3;cases e';exact ite_ff ⟨H3,I3,q'⟩
 | true=>
   refine ite_tt (test_last (thn (hc pins s3 σ H3 _ I3 q3) fun w' s4 ⟨z',H4,I4,r4,q4⟩=>thn (ho' pins s4 σ H4 y z' u w' _ I4 r2 r4 q4) fun d' s5 ⟨z2,H5,I5,r5,k2,e2,q5⟩=>?_));subst e2;cases r5;exact z8a ⟨H5,I5,q5⟩
theorem ze9:(sizeLine:Nat)<2^63:=by rw[z7z];decide
theorem op_add_str:OpR X (binaryOp .Add) (fun x y H Q=>∃i j,x=.str i/\y=.str j/\i.length+j.length<=sizeLine/\Q (.str (i++j)) H):=by intro pins s σ H x y v u Q I rx ry h;obtain⟨i,j,rfl,rfl,hz,q⟩:=h;obtain⟨t,rfl⟩:=rx;obtain⟨t',rfl⟩:=ry;exact add_str (fun t' tk=>⟨.str (i++j),H,I.tok _,⟨_,rfl⟩,q⟩) hz
theorem zq5{x:V}{us:List Value}(r:Vals [x] us):∃u,us=[u]/\RelV x u:=by
 cases r with
 |cons r1 r2=>cases r2;exact⟨_,rfl,r1⟩
theorem z19{x y:V}{us:List Value}(r:Vals [x,y] us):∃u w',us=[u,w']/\RelV x u/\RelV y w':=by
 cases r with
 | cons r1 r2=>
   cases r2 with
   |cons r3 r4=>cases r4;exact⟨_,_,rfl,r1,r3⟩
theorem zs0:CallR X (.builtin "abs") (fun xs H Q=>∃i,xs=[.int i]/\Q (.int (if i<0 then -i else i)) H):=by intro pins s σ H xs us Q I r h;obtain⟨i,rfl,q⟩:=h;obtain⟨u,rfl,t,rfl⟩:=zq5 r;exact call_abs_int fun u tk=>⟨.int (if i<0 then -i else i),H,I.tok _,⟨_,rfl⟩,q⟩
theorem zqm(hc:X.calm=true):CallR X (.builtin "max") (fun xs H Q=>∃i j,xs=[.int i,.int j]/\Q (.int (if j>i then j else i)) H):=by
 intro pins s σ H xs us Q I r h;obtain⟨i,j,rfl,q⟩:=h;obtain⟨u,w',rfl,⟨t,rfl⟩,⟨t',rfl⟩⟩:=z19 r;refine max_two_ints (I.ok.hd hc) fun h' tk k=>⟨_,H,I.kept k,?_,q⟩
 by_cases hj:j>i
 · rw[z64 hj,z64 hj];exact⟨_,rfl⟩
 · rw[z7a hj,z7a hj];exact⟨_,rfl⟩
end
structure ObjM (h:Heap) (x dx C:Addr) (mA:zMg):Prop where
 obj:h.get? x=some (PySem.W.instObj C dx)
 ns:h.Ns1 dx mA
 ne:dx≠x
theorem zpa{h:Heap}{dx:Addr}{mA:zMg}(n:h.Ns1 dx mA):∃od,h.get? dx=some od/\∀name,PySem.W.lookIn name od=some (mA name):=by
 obtain⟨o,es,ep,ho,hd,hk,_,hm⟩:=n;refine⟨o,ho,fun name=>?_⟩;have e:=hm name;unfold nsFind findBy at e;rw[<-Array.find?_toList]at e;unfold PySem.W.lookIn;rw[hd];dsimp only;split
 · rename_i y q;rw[q]at e;exact z8y some e
 · rename_i q;rw[q]at e;have a:es.toList.any (·.refKey)=false:=by rw[List.any_eq_false];intro y hy;obtain⟨z,t,hkey⟩:=hk y (Array.mem_toList_iff.mp hy);simp[DictEntry.refKey,hkey]
   have a':¬ es.toList.any (·.refKey)=true:=by rw[a];exact z73
   rw[z7a a'];exact z8y some e
theorem ObjM.look{h:Heap}{x dx C:Addr}{mA:zMg}(I:ObjM h x dx C mA):∃od,PySem.W.InstAt h x (PySem.W.instObj C dx) C (some od)/\∀name,PySem.W.lookIn name od=some (mA name) :=
 let⟨od,ho,hl⟩:=zpa I.ns
 ⟨od,⟨I.obj,rfl,rfl,ho⟩,hl⟩
section
variable {prog:Program}{w:World}{A:Around}{E:zVP}{s:Shared}{K:zFr}{x dx C f:Addr}{mA:zMg}{name:Str}{v:Value}
theorem zwf{expr:Bool}{Q:zVP}(X:K.In s.heap)(I:ObjM s.heap x dx C mA)(hg:PySem.W.plainGet K C name=true)(hh:PySem.W.hasDictIn K C=true)
   (ha:PySem.W.findIn K (.ref C) name=some none) (hv:mA name=some v) (hv':PySem.W.handedIn v=true) (h:Q v { s with toks:=s.toks+1 }) :
   wpAny (model prog w) A (getAttr (.ref x) name expr) Q E s:=by
 obtain⟨od,J,hl⟩:=I.look;exact PySem.W.get_value X J (qbc hg).1 (PySem.W.findObj_own hh ha rfl (by rw[hl,hv])) hv' h
theorem zse{pl:Sem Bool}{Q:Value×List Value->Shared->Prop}(X:K.In s.heap)(I:ObjM s.heap x dx C mA)(hg:PySem.W.plainGet K C name=true)
   (hf:PySem.W.findIn K (.ref C) name=some (some (.ref f))) (ht:PySem.W.isFn K (.ref f)=true) (hv:mA name=none) (h:Q (.ref f,[.ref x]) s) :
   wpAny (model prog w) A (getMethod (.ref x) name pl) Q E s:=by
 obtain⟨od,J,hl⟩:=I.look;exact PySem.W.method_fn X J (qbc hg).1 (qbc hg).2 hf (qap.mp ht) (by show(PySem.W.lookIn name od).map (·.isSome)=some false;rw[hl,hv];rfl) h
theorem zva{ns:List Str}{Q:Unit->Shared->Prop}(X:K.In s.heap)(I:ObjM s.heap x dx C mA)
   (hs:PySem.W.findIn K (.ref C) "__setattr__"=some (some (.builtin "object.__setattr__"))) (hp:PySem.W.plainOver K C=true) (ht:PySem.W.takerIn K C name=some none) (hh:PySem.W.hasDictIn K C=true)
   (hw:PySem.Within mA ns) (hsz:ns.length<=sizeLine)
   (h:∀h',ObjM h' x dx C (fun y=>if y=name then some v else mA y)->Heap.SameBut dx s.heap h'->Q () { s with heap:=h',toks:=s.toks+2 }) :
   wpAny (model prog w) A (setAttr (.ref x) name v) Q E s:=by
 obtain⟨od,J,hl⟩:=I.look;refine PySem.W.set_plain X J hs (PySem.W.osa_open (s:={ s with toks:=s.toks+1 }) (r:=none) X J hp ht fun b=>?_);obtain⟨cd,hc,hd'⟩:=PySem.W.any_some hh;have hx:s.heap.get? x=some ⟨.ref C,some dx,.plain,#[]⟩:=I.obj;refine z6m (z7g (z6m (z6m (wpAny_loadPart hx (z6m (PySem.W.Looks.here (s:={ s with toks:=s.toks+1 }) (PySem.W.looks_clsIn X hc) ?_))))));rw[hd'];refine z7g (a:=some dx) (z6m (z7g (z6m ?_)));refine wpAny_nsSet1 (s:={ s with toks:=s.toks+1 }) I.ns fun h' hn2 hs2=>?_;obtain⟨oD,esD,epD,hoD,hdD,hcD⟩:=hn2.count (PySem.Within.cons name v hw);refine z6m (wpAny_lookBehind hoD (by rw[hdD];exact pastItsLine_dict (z67 hcD (by rw[List.length_cons];omega))) ?_);exact z7g (h _ ⟨(hs2.2 _ (z9m I.ne)).trans I.obj,hn2,I.ne⟩ hs2)
theorem zr3{R:Result->Shared->Prop}{vs:List Value}{kw:List (Str×Value)}(X:K.In s.heap)(hm:PySem.W.makesIn K C=true)
   (hi:PySem.W.findIn K (.ref C) "__init__"=some (some (.ref f))) (hf:PySem.W.typeIn K (.ref f)=some (.type "function"))
   (h:codeAny (model prog w) (A.under (.builtin "type.__call__" ⟨.ref C::vs,kw⟩)) (.call (.ref f) ⟨.ref (s.heap.objs.size+1)::vs,kw⟩) (PySem.W.InitBack (s.heap.objs.size+1) R)
     { s with heap:=(s.heap.push PySem.W.emptyDict).push (PySem.W.instObj C s.heap.objs.size) }) :
   codeAny (model prog w) A (.call (.ref C) ⟨vs,kw⟩) R s:=by
 obtain⟨hh,g,d,t,os⟩:=s;exact PySem.W.make_core (PySem.W.makes_of X hm) (PySem.W.looks_findIn X hi) (fun self=>PySem.W.bind_fn X self hf) (.inl rfl) h
end
def zeq(f:Str)(v:V):List (Str×V)->List (Str×V)
 | []=>[(f,v)]
 | (g,x)::r=>if g=f then (g,v)::r else (g,x)::zeq f v r
theorem zdq(f g:Str)(v:V):∀fs:List (Str×V),(zeq f v fs).lookup g=if g=f then some v else fs.lookup g
 | []=>by
   show List.lookup g [(f,v)]=_;by_cases h:g=f
   · have hb:(g==f)=true:=qap.mpr h;simp only[List.lookup,hb,z64 h]
   · have hb:(g==f)=false:=z9w.mpr h;simp only[List.lookup,hb,z7a h]
 | (k,x)::r=>by
   have ih:=zdq f g v r;rw[show zeq f v ((k,x)::r)=(if k=f then (k,v)::r else (k,x)::zeq f v r)from rfl];by_cases hk:k=f
   · rw[z64 hk];by_cases h:g=k
     · have hb:(g==k)=true:=qap.mpr h;simp only[List.lookup,hb,z64 (h.trans hk)]
     · have hb:(g==k)=false:=z9w.mpr h;simp only[List.lookup,hb,z7a (fun e:g=f=>h (e.trans hk.symm))]
   · rw[z7a hk];by_cases h:g=k
     · have hb:(g==k)=true:=qap.mpr h;simp only[List.lookup,hb,z7a (fun e:g=f=>hk (h.symm.trans e))]
     · have hb:(g==k)=false:=z9w.mpr h;simp only[List.lookup,hb];exact ih
theorem zdx(f:Str)(v:V):∀fs:List (Str×V),f∈(zeq f v fs).map (·.1)/\∀g,g∈fs.map (·.1)->g∈(zeq f v fs).map (·.1)
 | []=>⟨by simp[zeq],fun g h=>by simp at h⟩
 | (k,x)::r=>by
   obtain⟨i1,i2⟩:=zdx f v r;rw[show zeq f v ((k,x)::r)=(if k=f then (k,v)::r else (k,x)::zeq f v r)from rfl];by_cases hk:k=f
   · rw[z64 hk];subst hk;exact⟨by simp,fun g h=>by simpa using h⟩
   · rw[z7a hk];refine⟨?_,fun g h=>?_⟩
     · rw[z65];exact z6r _ i1
     · rw[z65]at h ⊢;rcases z6n.mp h with e | e
       · exact z6n.mpr (.inl e)
       · exact z6r _ (i2 g e)
theorem zdv(f:Str)(v:V):∀fs:List (Str×V),(zeq f v fs).length<=fs.length+1
 | []=>by simp[zeq]
 | (k,x)::r=>by
   have ih:=zdv f v r;rw[show zeq f v ((k,x)::r)=(if k=f then (k,v)::r else (k,x)::zeq f v r)from rfl];by_cases hk:k=f
   · rw[z64 hk,List.length_cons,List.length_cons];omega
   · rw[z7a hk,List.length_cons,List.length_cons];omega
theorem RelO.some_of{v:V}{o:Option Value}(r:RelO (some v) o):∃u,o=some u/\RelV v u:=by
 cases o with
 |none=>exact(show False from r).elim
 |some u=>exact⟨u,rfl,r⟩
theorem RelO.none_of{o:Option Value}(r:RelO none o):o=none:=by
 cases o with
 |none=>rfl
 |some u=>exact(show False from r).elim
theorem zpq{v:V}{u:Value}(r:RelV v u):PySem.W.handedIn u=true:=by
 cases v with
 |non=>cases(show u=Value.none from r);rfl
 |bl b=>cases(show u=Value.bool b from r);rfl
 |int i=>obtain⟨t,e⟩:=(show ∃t,u=Value.int i t from r);cases e;rfl
 |str x=>obtain⟨t,e⟩:=(show ∃t,u=Value.str x t from r);cases e;rfl
 |byt b=>obtain⟨t,e⟩:=(show ∃t,u=Value.bytes b t from r);cases e;rfl
 |flt b=>obtain⟨t,e⟩:=(show ∃t,u=Value.float b t from r);cases e;rfl
 |ref a=>cases(show u=Value.ref a from r);rfl
 |ty n=>cases(show u=Value.type n from r);rfl
section
variable {P:Program}{w:World}{H H':Hp}{h h':Heap}{a C dx:Addr}{fs fs':List (Str×V)}
theorem zgc(hok:HOk P w H h)(e:H a=some (.ins C dx fs)):∃mA,ObjM h a dx C mA/\(∀f,RelO (fs.lookup f) (mA f))/\PySem.Within mA (fs.map (·.1))/\fs.length<=1000/\H dx=some (.own a):=by
 obtain⟨d,z,ne,ob,mA,n,r,q⟩:=(show ObjOk P w H h a (.ins C dx fs)from hok a _ e)
 exact⟨mA,⟨ob,n,ne⟩,r,q,z,d⟩
end
structure Cls (K:zFr) (C:Addr):Prop where
 pg:PySem.W.plainGet K C Str.empty=true
 hd:PySem.W.hasDictIn K C=true
 po:PySem.W.plainOver K C=true
 sa:PySem.W.findIn K (.ref C) "__setattr__"=some (some (.builtin "object.__setattr__"))
theorem Cls.get{K:zFr}{C:Addr}(c:Cls K C)(f:Str):PySem.W.plainGet K C f=true:=c.pg
def NoAttr(K:zFr)(C:Addr)(f:Str):Prop:=PySem.W.findIn K (.ref C) f=some none
theorem NoAttr.taker{K:zFr}{C:Addr}{f:Str}(n:NoAttr K C f):PySem.W.takerIn K C f=some none:=by unfold PySem.W.takerIn;rw[show PySem.W.findIn K (.ref C) f=some none from n];rfl
structure Meth (K:zFr) (C:Addr) (m:Str) (f:Addr):Prop where
 at_:PySem.W.findIn K (.ref C) m=some (some (.ref f))
 fn:PySem.W.isFn K (.ref f)=true
 kp:PySem.W.keepIn K (.ref f)=true
section
variable {X:Cx}{pins:zAO}{σ:St}{H:Hp}{s:Shared}{a C dx:Addr}{fs:List (Str×V)}{f:Str}{v:V}{A:Around}{E:zVP}
theorem zmk{b:Bool}{Q:zVP}(I:Inv X pins σ H s)(e:H a=some (.ins C dx fs))(c:Cls X.K C)(n:NoAttr X.K C f)(l:fs.lookup f=some v)
   (h:∀u s',Inv X pins σ H s'->RelV v u->Q u s'):wpAny (model X.prog X.w) A (getAttr (.ref a) f b) Q E s:=by
 obtain⟨mA,O,r,_,_,_⟩:=zgc I.hok e;obtain⟨u,hu,ru⟩:=RelO.some_of (v:=v) (o:=mA f) (by rw[<-l];exact r f);exact zwf I.kIn O (c.get f) c.hd n hu (zpq ru) (h u _ (I.tok _) ru)
theorem zfc{m:Str}{g:Addr}{pl:Sem Bool}{Q:Value×List Value->Shared->Prop}(I:Inv X pins σ H s)(e:H a=some (.ins C dx fs))(c:Cls X.K C)(k:Meth X.K C m g)(l:fs.lookup m=none)
   (h:Q (.ref g,[.ref a]) s):wpAny (model X.prog X.w) A (getMethod (.ref a) m pl) Q E s:=by
 obtain⟨mA,O,r,_,_,_⟩:=zgc I.hok e;have hn:mA m=none:=RelO.none_of (by rw[<-l];exact r m);exact zse I.kIn O (c.get m) k.at_ k.fn hn h
theorem zlw{y:V}{u:Value}{Q:Unit->Shared->Prop}(I:Inv X pins σ H s)(e:H a=some (.ins C dx fs))(c:Cls X.K C)(n:NoAttr X.K C f)(hl:fs.length<1000)(ry:RelV y u)
   (h:∀s',Inv X pins σ (upd H a (.ins C dx (zeq f y fs))) s'->Q () s'):wpAny (model X.prog X.w) A (setAttr (.ref a) f u) Q E s:=by
 obtain⟨mA,O,r,wi,_,ho⟩:=zgc I.hok e;have hz:(fs.map (·.1)).length<=sizeLine:=by rw[z8s,z7z];omega
 refine zva I.kIn O c.sa c.po n.taker c.hd wi hz fun h' O' sb=>h _ ?_;have hd:∃o,h'.get? dx=some o:=let⟨o,_,_,e',_⟩:=O'.ns;⟨o,e'⟩;refine I.write (x:=a) (e:=dx) (by rw[e];exact True.intro) (.inr ho) (fun b q hb z=>(sb.2 b hb).trans z) hd ?_;refine⟨by rw[qd O.ne];exact ho,?_,O.ne,O'.obj,_,O'.ns,fun g=>?_,fun g hg=>?_⟩
 · have:=zdv f y fs;omega
 · show RelO ((zeq f y fs).lookup g) (if g=f then some u else mA g);rw[zdq];by_cases q:g=f
   · rw[z64 q,z64 q];exact ry
   · rw[z7a q,z7a q];exact r g
 · by_cases q:g=f
   · rw[q];exact(zdx f y fs).1
   · refine(zdx f y fs).2 g (wi g fun z=>hg ?_);show(if g=f then some u else mA g)=none;rw[z7a q];exact z
theorem Inv.made(I:Inv X pins σ H s):Inv X pins σ (upd (upd H s.heap.objs.size (.own (s.heap.objs.size+1))) (s.heap.objs.size+1) (.ins C s.heap.objs.size []))
   { s with heap:=(s.heap.push PySem.W.emptyDict).push (PySem.W.instObj C s.heap.objs.size) }:=by
 have e1:(s.heap.push PySem.W.emptyDict).get? s.heap.objs.size=some PySem.W.emptyDict:=z7j s.heap rfl;have e2:((s.heap.push PySem.W.emptyDict).push (PySem.W.instObj C s.heap.objs.size)).get? (s.heap.objs.size+1)=some (PySem.W.instObj C s.heap.objs.size):=by
   have:=z7j (s.heap.push PySem.W.emptyDict) (o:=PySem.W.instObj C s.heap.objs.size) rfl
   rwa [qbr]at this
 have e3:(s.heap.push PySem.W.emptyDict).Ns s.heap.objs.size (fun _=>none):=⟨PySem.W.emptyDict,#[],_,e1,rfl,(fun e he=>absurd he (by simp)),fun _=>rfl⟩
 have I1:=I.laid (a:=s.heap.objs.size) (o:=.own (s.heap.objs.size+1)) (h':=s.heap.push PySem.W.emptyDict) (t':=s.toks) (fun b u q=>z6u _ q) (z6l _) ⟨_,e1⟩;refine I1.laid (a:=s.heap.objs.size+1) (o:=.ins C s.heap.objs.size []) (t':=s.toks) (fun b u q=>z6u _ q) (Nat.le_of_eq (qbr _ _)) ?_;have ne:s.heap.objs.size≠s.heap.objs.size+1:=z7b (qak _);refine⟨by rw[qd ne,qf],z7k _,ne,e2,fun _=>none,(Heap.Ns1.of_empty e3).at fun o q=>z6u _ q,fun _=>True.intro,fun y hy=>absurd rfl hy⟩
theorem zw4{prog:Program}{w:World}{env:Env}{e:Expr}{f:Str}{pos:Pos}{s:Shared}{Q:zVP}(hb:attributeBase e f env (eval e env)=eval e env)
   (h:wpAny (model prog w) A (eval e env) (fun o s₁=>wpAny (model prog w) A (getAttr o f true) Q E s₁) E s):wpAny (model prog w) A (eval (.Attribute e f pos) env) Q E s :=
 Attribute_any_ h (by rw[arm_eval_Attribute,hb])
end
def z5k(K:zFr)(ta:TE)(f:Str):TE:=fun σ H Q=>ta σ H fun x H1=>∃a C dx fs v,x=.ref a/\H1 a=some (.ins C dx fs)/\Cls K C/\NoAttr K C f/\fs.lookup f=some v/\Q v H1
def z5q(K:zFr)(ta tv:TE)(f:Str):TS:=fun D σ H=>tv σ H fun y H1=>ta σ H1 fun x H2=>∃a C dx fs,x=.ref a/\H2 a=some (.ins C dx fs)/\Cls K C/\NoAttr K C f/\fs.length<1000 /\
 D.nx σ (upd H2 a (.ins C dx (zeq f y fs)))
section
variable {X:Cx}{o e value:Expr}{f:Str}{pos pos' tpos:Pos}{ta tv:TE}
theorem zy3(he:PE X e ta)(hb:attributeBase e f X.env (eval e X.env)=eval e X.env):PE X (.Attribute e f pos) (z5k X.K ta f):=by intro pins s σ H Q I h;refine zw4 hb (thn (he pins s σ H _ I h) fun u s1 ⟨x,H1,I1,rx,a,C,dx,fs,v,ex,ea,c,n,l,q⟩=>?_);subst ex;obtain rfl:u=Value.ref a:=rx;exact zmk I1 ea c n l fun u' s2 I2 ru=>⟨v,H1,I2,ru,q⟩
theorem zyq(ha:PE X o ta)(hv:PE X value tv)(hs:swapsWith value (some (.Attribute o f pos')) pos.line X.env=pure false):PS X (.Assign [.Attribute o f pos'] value pos) (z5q X.K ta tv f):=by intro pins s σ H D I h;refine plainObj_wpAny_Assign_Attribute (thn (hv pins s σ H _ I h) fun u s1 ⟨y,H1,I1,ry,q⟩=>thn (ha pins s1 σ H1 _ I1 q) fun ov s2 ⟨x,H2,I2,rx,a,C,dx,fs,ex,ea,c,n,l,q2⟩=>?_) hs;subst ex;obtain rfl:ov=Value.ref a:=rx;exact zlw I2 ea c n l ry fun s3 I3=>⟨σ,_,I3,q2⟩
end
section
variable {X:Cx}{pins:zAO}{σ:St}{H:Hp}{s:Shared}{A:Around}{E:zVP}{Q:zVP}{c:Value}{b:Bool}
inductive TyOf (K:zFr) (H:Hp):V->Value->Prop where
 |non:TyOf K H .non (.type "NoneType")
 |bl (x:Bool):TyOf K H (.bl x) (.type "bool")
 |int (i:Int):TyOf K H (.int i) (.type "int")
 |str (x:Str):TyOf K H (.str x) (.type "str")
 |flt (x:UInt64):TyOf K H (.flt x) (.type "float")
 |lst {a:Addr}{xs:List V} (e:H a=some (.lst xs)):TyOf K H (.ref a) (.type "list")
 |frz {a:Addr}{o:Obj}{xs:List V} (e:H a=some (.frz o (.lst xs))):TyOf K H (.ref a) (.type "list")
 |tup {a:Addr}{xs:List V} (e:H a=some (.tup xs)):TyOf K H (.ref a) (.type "tuple")
 |dK {a:Addr}{kvs:List (Key×V)} (e:H a=some (.dK kvs)):TyOf K H (.ref a) (.type "dict")
 |dT {a:Addr}{kvs:List (List Key×V)} (e:H a=some (.dT kvs)):TyOf K H (.ref a) (.type "dict")
 |ins {a C dx:Addr}{fs:List (Str×V)} (e:H a=some (.ins C dx fs)) (cl:Cls K C) (ha:PySem.W.findIn K (.ref C) "__class__"=some (some (.builtin "object.__class__")))
     (hn:PySem.W.specialIn K (.builtin "object.__class__") "__get__"=some (some (.builtin "getset_descriptor.__get__"))) (htk:PySem.W.takesIn K (.builtin "object.__class__")=some true)
     (hm:PySem.W.mroIn K C (.type "object")=some true):TyOf K H (.ref a) (.ref C)
theorem zph{x:V}{u t:Value}(I:Inv X pins σ H s)(rx:RelV x u)(ty:TyOf X.K H x t)(e:PySem.W.kitOne X.K t c=some b)(h:∀tk,Q (.bool b) { s with toks:=tk }) :
   wpAny (model X.prog X.w) A (call (.builtin "isinstance") [u,c]) Q E s:=by
 cases ty with
 |non=>cases(show u=Value.none from rx);exact z79 PySem.W.kitx_none I.kIn True.intro e (fun z=>nomatch z) h
 |bl y=>cases(show u=Value.bool y from rx);exact z79 PySem.W.kitx_bool I.kIn True.intro e (fun z=>nomatch z) h
 |int i=>obtain⟨t,q⟩:=(show ∃t,u=Value.int i t from rx);cases q;exact z79 PySem.W.kitx_int I.kIn True.intro e (fun z=>nomatch z) h
 |str y=>obtain⟨t,q⟩:=(show ∃t,u=Value.str y t from rx);cases q;exact z79 PySem.W.kitx_str I.kIn True.intro e (fun z=>nomatch z) h
 |flt y=>obtain⟨t,q⟩:=(show ∃t,u=Value.float y t from rx);cases q;exact z79 PySem.W.kitx_float I.kIn True.intro e (fun z=>nomatch z) h
 | @lst a xs ea=>
   cases(show u=Value.ref a from rx);obtain⟨_,_,n,_,h1⟩:=(show ObjOk X.prog X.w H s.heap a (.lst xs)from I.hok a _ ea)
   exact z79 qbv I.kIn ⟨_,h1,rfl⟩ e (fun z=>nomatch z) h
 | @frz a ob xs ea=>
   cases(show u=Value.ref a from rx);obtain⟨_,_,_,n,_,h1⟩:=(show ObjOk X.prog X.w H s.heap a (.frz ob (.lst xs))from I.hok a _ ea)
   exact z79 qbv I.kIn ⟨_,h1,rfl⟩ e (fun z=>nomatch z) h
 | @tup a xs ea=>
   cases(show u=Value.ref a from rx);obtain⟨_,_,_,p⟩:=(show ObjOk X.prog X.w H s.heap a (.tup xs)from I.hok a _ ea)
   obtain⟨o,h1,h2,_⟩:=p;exact z79 PySem.W.kitx_tuple I.kIn ⟨o,h1,h2⟩ e (fun z=>nomatch z) h
 | @dK a kvs ea=>
   cases(show u=Value.ref a from rx);obtain⟨_,_,vs,_,p⟩:=(show ObjOk X.prog X.w H s.heap a (.dK kvs)from I.hok a _ ea)
   obtain⟨o,es,ep,h1,h2,_⟩:=p;exact z79 PySem.W.kitx_dict I.kIn ⟨o,h1,h2.1⟩ e (fun z=>nomatch z) h
 | @dT a kvs ea=>
   cases(show u=Value.ref a from rx);obtain⟨_,_,xs,_,o,es,ep,h1,h2,_⟩:=(show ObjOk X.prog X.w H s.heap a (.dT kvs)from I.hok a _ ea)
   exact z79 PySem.W.kitx_dict I.kIn ⟨o,h1,h2.1⟩ e (fun z=>nomatch z) h
 | @ins a C dx fs ea cl ha hn htk hm=>
   cases(show u=Value.ref a from rx);obtain⟨mA,O,_⟩:=zgc I.hok ea;obtain⟨od,J,_⟩:=O.look;exact z79 (PySem.W.kitx_own (cl.get _) cl.hd ha hn htk hm) I.kIn J e (fun z=>nomatch z) h
end
structure Room (k:Nat) (A:Around):Prop where
 hd:A.handled=none
 dp:A.depth+3*k+5<recursionLimit
 un:A.units+16*k+200<cLine
theorem Room.mono{j k:Nat}{A:Around}(r:Room k A)(h:j<=k):Room j A:=⟨r.hd,by have:=r.dp;omega,by have:=r.un;omega⟩
theorem Room.deeper{k:Nat}{A:Around}(r:Room (k+1) A)(env:Env):Room k (A.deeper env) :=
 ⟨r.hd,by have:=r.dp;show A.depth+1+3*k+5<_;omega,by have:=r.un;show A.units+3+16*k+200<_;omega⟩
theorem Room.in1{k:Nat}{A:Around}(r:Room (k+1) A):Room k A.in1 :=
 ⟨r.hd,by have:=r.dp;show A.depth+3*k+5<_;omega,by have:=r.un;show A.units+1+16*k+200<_;omega⟩
theorem zmd{A:Around}{C:Addr}{us:List Value}{kw:List (Str×Value)}:(A.under (.builtin "type.__call__" ⟨.ref C::us,kw⟩)).depth=A.depth+1:=by
 first | rfl | simp[Around.under,Code.weight,Code.isCreation,Code.isGuard,Code.isCaller,Code.frames,Code.isFrame,guardIds]
theorem zmc{A:Around}{C:Addr}{us:List Value}{kw:List (Str×Value)}:(A.under (.builtin "type.__call__" ⟨.ref C::us,kw⟩)).units=A.units+1:=by
 first | rfl | simp[Around.under,Code.cUnits,Code.frames,Code.isFrame]
theorem Room.make{k:Nat}{A:Around}(r:Room (k+1) A)(C:Addr)(us:List Value)(kw:List (Str×Value)):Room k (A.under (.builtin "type.__call__" ⟨.ref C::us,kw⟩)) :=
 ⟨r.hd,by have:=r.dp;rw[zmd];omega,by have:=r.un;rw[zmc];omega⟩
theorem Room.depth{k:Nat}{A:Around}(r:Room k A):A.depth<recursionLimit:=by have:=r.dp;omega
def z4e:TA:=fun _ H Q=>Q [] H
def z2i(ta:TE)(tr:TA):TA:=fun σ H Q=>ta σ H fun x H1=>tr σ H1 fun xs H2=>Q (x::xs) H2
section
variable {X:Cx}{e:Expr}{es:List Expr}{te:TE}{t:TA}{pos:Pos}
theorem zon:PA X [] z4e:=fun _ _ _ _ H Q I h=>Calls.spliced_nil ⟨[],H,I,.nil,h⟩
theorem zf0(ha:PE X e te)(hr:PA X es t)(hs:starEach (e::es) X.env=(false,eval e X.env)::starEach es X.env:=by rfl):PA X (e::es) (z2i te t):=by intro pos pins s σ H Q I h;rw[hs];show wpAny _ _ (spliced ((false,eval e X.env)::backTo pos (starEach es X.env))) _ _ s;refine Calls.spliced_cons (thn (ha pins s σ H _ I h) fun u s1 ⟨x,H1,I1,r1,q1⟩=>?_);exact thn (hr pos pins s1 σ H1 _ I1 q1) fun us s2 ⟨xs,H2,I2,r2,q2⟩=>⟨x::xs,H2,I2,.cons r1 r2,q2⟩
def z5c(t:TA):TE:=fun σ H Q=>t σ H fun xs H1=>xs.length<=sizeLine/\∀p,H1 p=none->Q (.ref p) (upd H1 p (.tup xs))
def z5h(t:TA):TE:=fun σ H Q=>t σ H fun xs H1=>xs.length<=sizeLine/\∀p,H1 p=none->Q (.ref p) (upd H1 p (.lst xs))
theorem zyw{x1}(h:PA X es t):PE X (.Tuple es x1 pos) (z5c t):=by intro pins s σ H Q I hq;refine wpAny_Tuple_spliced (thn (h pos pins s σ H _ I hq) fun us s1 ⟨xs,H1,I1,r,z,q⟩=>⟨by rw[<-r.length];exact z,?_⟩);have hf:H1 s1.heap.objs.size=none:=I1.hok.fresh (z6l _);refine⟨.ref s1.heap.objs.size,upd H1 s1.heap.objs.size (.tup xs),I1.laid (t':=s1.toks) (fun b u e=>z6u _ e) (z6l _) ?_,rfl,q _ hf⟩;exact⟨z,us,r,⟨_,z7j _ rfl,rfl,_,rfl⟩⟩
theorem ztv(h:PA X es t):PE X (.List es pos) (z5h t):=by intro pins s σ H Q I hq;refine wpAny_List_spliced (thn (h pos pins s σ H _ I hq) fun us s1 ⟨xs,H1,I1,r,z,q⟩=>⟨by rw[<-r.length];exact z,?_⟩);have hf:H1 s1.heap.objs.size=none:=I1.hok.fresh (z6l _);refine⟨.ref s1.heap.objs.size,upd H1 s1.heap.objs.size (.lst xs),I1.laid (t':=s1.toks) (fun b u e=>z6u _ e) (z6l _) ?_,rfl,q _ hf⟩;exact⟨z,us,0,r,z7j _ rfl⟩
end
abbrev Sp:=List V->Hp->VK->XK->Prop
abbrev CXT:=List Env->Hp->Shared->XK->zVP
structure Env0 (P:Program) (w:World) (K:zFr) (mg:zMg) (base:Heap) (A:Around) (outer:List Env) (s:Shared) (H:Hp):Prop where
 frames:A.frames=some outer
 mod:Mod K mg base
 bs:∀b o,base.get? b=some o->s.heap.get? b=some o/\H b=none
 bsz:base.objs.size<=s.heap.objs.size
 funs:s.heap.FunFrames base outer
 frf:∀b∈frs outer,H b=none
 hok:HOk P w H s.heap
 bare:AllBare s.gens
def CE(outer:List Env)(P:Program)(w:World)(H:Hp)(s:Shared)(Q:VK)(u:Value)(s':Shared):Prop :=
 ∃v H',s'.os=s.os/\AllBare s'.gens/\Un (frs outer) [] H H' s.heap s'.heap/\HOk P w H' s'.heap/\RelV v u/\Q v H'
def CR(CX:CXT)(outer:List Env)(P:Program)(w:World)(H:Hp)(s:Shared)(Q:VK)(E:XK)(r:Result)(s':Shared):Prop :=
 match r with
 | .ok (.ret u)=>CE outer P w H s Q u s'
 | .ok _=>False
 | .error e=>CX outer H s E e s'
structure FnOk (P:Program) (w:World) (K:zFr) (mg:zMg) (base:Heap) (CX:CXT) (k:Nat) (f:Addr) (fd:FuncData) (ps:List Str) (sp:Sp):Prop where
 len:∀vs H Q E,sp vs H Q E->vs.length=ps.length
 run:∀(A:Around) (outer:List Env) (s:Shared) (H:Hp) (args:Args) (us:List Value) (vs:List V) (Q:VK) (E:XK),Room k A->Env0 P w K mg base A outer s H->BindsTo s fd args (ps.zip us)->Vals vs us->sp vs H Q E ->
   codeAny (model P w) A (.call (.ref f) args) (CR CX outer P w H s Q E) s
theorem FnOk.mono{P:Program}{w:World}{K:zFr}{mg:zMg}{base:Heap}{CX:CXT}{j k:Nat}{f:Addr}{fd:FuncData}{ps:List Str}{sp:Sp}(F:FnOk P w K mg base CX j f fd ps sp)(h:j<=k) :
   FnOk P w K mg base CX k f fd ps sp:=⟨F.len,fun A outer s H args us vs Q E hr=>F.run A outer s H args us vs Q E (hr.mono h)⟩
theorem FnOk.imp{P:Program}{w:World}{K:zFr}{mg:zMg}{base:Heap}{CX:CXT}{k:Nat}{f:Addr}{fd:FuncData}{ps:List Str}{sp sp':Sp}(F:FnOk P w K mg base CX k f fd ps sp)
   (h:∀vs H Q E,sp' vs H Q E->sp vs H Q E):FnOk P w K mg base CX k f fd ps sp' :=
 ⟨fun vs H Q E q=>F.len vs H Q E (h _ _ _ _ q),fun A outer s H args us vs Q E hr he hb hv hs=>F.run A outer s H args us vs Q E hr he hb hv (h _ _ _ _ hs)⟩
theorem Env0.make{P:Program}{w:World}{K:zFr}{mg:zMg}{base:Heap}{A:Around}{outer:List Env}{s:Shared}{H:Hp}(e:Env0 P w K mg base A outer s H)(C:Addr)(us:List Value)(kw:List (Str×Value)) :
   Env0 P w K mg base (A.under (.builtin "type.__call__" ⟨.ref C::us,kw⟩)) outer s H:=⟨by first | exact e.frames | (simpa [Around.under,Code.envs,Code.isFrame,pushEnvs] using e.frames),e.mod,e.bs,e.bsz,e.funs,e.frf,e.hok,e.bare⟩
theorem Env0.in1{P:Program}{w:World}{K:zFr}{mg:zMg}{base:Heap}{A:Around}{outer:List Env}{s:Shared}{H:Hp}(e:Env0 P w K mg base A outer s H) :
   Env0 P w K mg base A.in1 outer s H:=⟨e.frames,e.mod,e.bs,e.bsz,e.funs,e.frf,e.hok,e.bare⟩
section
variable {X:Cx}{pins:zAO}{σ:St}{H:Hp}{s s':Shared}
theorem Inv.env0(I:Inv X pins σ H s):Env0 X.prog X.w X.K X.mg X.base X.A X.stack s H :=
 ⟨I.ok.frames,I.ok.mod,I.bs,z67 I.ok.bsz I.sz,I.stack,I.stkFree,I.hok,I.bare⟩
theorem Inv.after{Q:VK}{u:Value}(I:Inv X pins σ H s)(h:CE X.stack X.prog X.w H s Q u s'):EP X pins σ Q u s':=by obtain⟨v,H',os,bare,un,hok,r,q⟩:=h;obtain⟨hh,g,d,t,os'⟩:=s';obtain rfl:os'=s.os:=os;exact⟨v,H',I.call (h':=hh) (g':=g) (d':=d) (t':=t) (ch:=[]) un hok bare (fun b z=>absurd z (by simp)),r,q⟩
end
def zuy(sp:Sp)(dvs:List V)(E:XK)(t:TA):TE:=fun σ H Q=>t σ H fun vs H1=>sp (vs++dvs) H1 Q E
def zxw(C:Addr)(m:Str)(sp:Sp)(dvs:List V)(E:XK)(ta:TE)(t:TA):TE:=fun σ H Q=>ta σ H fun x H1=>∃a dx fs,x=.ref a/\H1 a=some (.ins C dx fs)/\fs.lookup m=none /\
 t σ H1 fun vs H2=>sp (x::(vs++dvs)) H2 Q E
def zxx(C:Addr)(sp:Sp)(dvs:List V)(E:XK)(t:TA):TE:=fun σ H Q=>t σ H fun vs H1=>∀x dx,H1 x=none->H1 dx=none->dx≠x ->
 sp (.ref x::(vs++dvs)) (upd (upd H1 dx (.own x)) x (.ins C dx [])) (fun v H2=>v=.non/\Q (.ref x) H2) E
def Binds(K:zFr)(fd:FuncData)(ps:List Str)(ds:List Value):Prop :=
 ∀(s:Shared) (us:List Value),K.In s.heap->(us++ds).length=ps.length->BindsTo s fd ⟨us,[]⟩ (ps.zip (us++ds))
theorem Binds.all{K:zFr}{fd:FuncData}{ps:List Str}(h:∀us:List Value,us.length=ps.length->bindArgs fd ⟨us,[]⟩=pure (ps.zip us)):Binds K fd ps []:=fun s us _ hl=>by rw[z7h]at hl ⊢;exact .of_eq (h us hl)
def zep(CX:CXT)(X:Cx)(E:XK):Prop:=∀(pins:zAO) (σ:St) (H:Hp) (s:Shared) (e:Value) (s':Shared),Inv X pins σ H s->CX X.stack H s E e s'->X.xe e s'
section
variable {X:Cx}{CX:CXT}{k:Nat}{f C:Addr}{fd:FuncData}{ps:List Str}{sp:Sp}{dvs:List V}{ds:List Value}{E:XK}{x m:Str}{p pos apos:Pos}{e o:Expr}{es:List Expr}{ta:TE}{t:TA}
theorem ze4{pins:zAO}{σ:St}{H:Hp}{s:Shared}{Q:VK}{us:List Value}{vs:List V}(F:FnOk X.prog X.w X.K X.mg X.base CX k f fd ps sp)(hr:Room k X.A)(hb:Binds X.K fd ps ds)(hd:Vals dvs ds)(hx:zep CX X E)
   (I:Inv X pins σ H s) (r:Vals vs us) (h:sp (vs++dvs) H Q E):wpAny (model X.prog X.w) X.A (call (.ref f) us) (EP X pins σ Q) X.xe s:=by
 have r2:Vals (vs++dvs) (us++ds):=r.append hd;have hl:(us++ds).length=ps.length:=by rw[<-r2.length];exact F.len _ _ _ _ h
 refine wpAny_call (qa5 (F.run X.A X.stack s H ⟨us,[]⟩ (us++ds) (vs++dvs) Q E hr I.env0 (hb s us I.kIn hl) r2 h) fun r s' hq=>?_);cases r with
 |error e=>exact hx pins σ H s e s' I hq
 | ok fl=>
   cases fl with
   |ret u=>exact I.after hq
   |next=>exact False.elim hq
   |brk=>exact False.elim hq
   |cont=>exact False.elim hq
theorem zvr(F:FnOk X.prog X.w X.K X.mg X.base CX k f fd ps sp)(hr:Room k X.A)(hg:Gl X x)(hm:X.mg x=some (.ref f))(hk:PySem.W.keepIn X.K (.ref f)=true)(hb:Binds X.K fd ps ds)(hd:Vals dvs ds)(hx:zep CX X E)
   (ha:PA X (e::es) t) (hdb:(x==("__debug__":Str))=false:=by decide) (he:starEach (e::es) X.env=(false,eval e X.env)::starEach es X.env:=by rfl) (hpl:(backTo pos (starEach es X.env)).any (·.1)=false:=by rfl) :
   PE X (.Call (.Name x p) (e::es) [] pos) (zuy sp dvs E t):=by
 intro pins s σ H Q I h;refine z8t (zf7 I hg hm ?_ hdb);refine z96 (h₀:=X.base) I.ok.mod.kin hk (thn (ha pos pins s σ H _ I h) fun us s1 ⟨vs,H1,I1,r,q⟩=>⟨I1.kIn,?_⟩) he hpl;exact ze4 F hr hb hd hx I1 r q
theorem zvm{pl:Sem Bool}(he:PE X o ta)(c:Cls X.K C)(hm:Meth X.K C m f)(F:FnOk X.prog X.w X.K X.mg X.base CX k f fd ps sp)(hr:Room k X.A)(hb:Binds X.K fd ps ds)(hd:Vals dvs ds)(hx:zep CX X E)(ha:PA X (e::es) t)
   (hst:starEach (e::es) X.env=(false,eval e X.env)::starEach es X.env:=by rfl) (hpl:(backTo pos (starEach es X.env)).any (·.1)=false:=by rfl)
   (ht:eval (.Call (.Attribute o m apos) (e::es) [] pos) X.env=(do
     let ov <-eval o X.env
     standAt apos.atName
     let(f,first) <-holding [ov] (getMethod ov m pl)
     callWith pos f first (backTo pos (starEach (e::es) X.env)) (backToKw pos (keywordEach [] X.env))):=by rfl) :
   PE X (.Call (.Attribute o m apos) (e::es) [] pos) (zxw C m sp dvs E ta t):=by
 intro pins s σ H Q I h;refine PySem.W.methodCall_KW (pl:=pl) (thn (he pins s σ H _ I h) fun u s1 ⟨x,H1,I1,rx,a,dx,fs,ex,ea,l,q⟩=>?_) ht;subst ex;obtain rfl:u=Value.ref a:=rx;refine zfc I1 ea c hm l ?_;refine z96 (first:=[.ref a]) (h₀:=X.base) I.ok.mod.kin hm.kp (thn (ha pos pins s1 σ H1 _ I1 q) fun us s2 ⟨vs,H2,I2,r,q2⟩=>⟨I2.kIn,?_⟩) hst hpl;exact ze4 (us:=.ref a::us) (vs:=.ref a::vs) F hr hb hd hx I2 (.cons rfl r) q2
theorem zrx{pl:Sem Bool}(he:PE X o ta)(c:Cls X.K C)(hm:Meth X.K C m f)(F:FnOk X.prog X.w X.K X.mg X.base CX k f fd ps sp)(hr:Room k X.A)(hb:Binds X.K fd ps ds)(hd:Vals dvs ds)(hx:zep CX X E)
   (ht:eval (.Call (.Attribute o m apos) [] [] pos) X.env=(do
     let ov <-eval o X.env
     standAt apos.atName
     let(f,first) <-holding [ov] (getMethod ov m pl)
     callWith pos f first (backTo pos (starEach [] X.env)) (backToKw pos (keywordEach [] X.env))):=by rfl) :
   PE X (.Call (.Attribute o m apos) [] [] pos) (zxw C m sp dvs E ta z4e):=by
 intro pins s σ H Q I h;refine PySem.W.methodCall_KW (pl:=pl) (thn (he pins s σ H _ I h) fun u s1 ⟨x,H1,I1,rx,a,dx,fs,ex,ea,l,q⟩=>?_) ht;subst ex;obtain rfl:u=Value.ref a:=rx;refine zfc I1 ea c hm l ?_;exact PySem.W.callWith_K0 (first:=[.ref a]) I1.kIn hm.kp (ze4 (us:=[.ref a]) (vs:=[.ref a]) F hr hb hd hx I1 (.cons rfl .nil) q)
structure Mk (K:zFr) (C f:Addr):Prop where
 makes:PySem.W.makesIn K C=true
 init:PySem.W.findIn K (.ref C) "__init__"=some (some (.ref f))
 fn:PySem.W.isFn K (.ref f)=true
 kp:PySem.W.keepIn K (.ref C)=true
theorem zri{pins:zAO}{σ:St}{H:Hp}{s:Shared}{Q:VK}{us:List Value}{vs:List V}(M:Mk X.K C f)(F:FnOk X.prog X.w X.K X.mg X.base CX k f fd ps sp)(hr:Room (k+1) X.A)(hb:Binds X.K fd ps ds)(hd:Vals dvs ds)
   (hx:zep CX X E) (I:Inv X pins σ H s) (r:Vals vs us)
   (h:∀x dx,H x=none->H dx=none->dx≠x->sp (.ref x::(vs++dvs)) (upd (upd H dx (.own x)) x (.ins C dx [])) (fun v H2=>v=.non/\Q (.ref x) H2) E) :
   wpAny (model X.prog X.w) X.A (call (.ref C) us) (EP X pins σ Q) X.xe s:=by
 have hq:=h (s.heap.objs.size+1) s.heap.objs.size (I.hok.fresh (qb1 _)) (I.hok.fresh (z6l _)) (z7b (qak _));have I2:=Inv.made (C:=C) I;have r2:Vals (V.ref (s.heap.objs.size+1)::(vs++dvs)) (Value.ref (s.heap.objs.size+1)::(us++ds)):=.cons rfl (r.append hd);have hl:(Value.ref (s.heap.objs.size+1)::us++ds).length=ps.length:=by have e:=r2.length;rw[F.len _ _ _ _ hq]at e;exact e.symm
 refine wpAny_call (zr3 (f:=f) I.kIn M.makes M.init (qap.mp M.fn) (qa5 (F.run _ X.stack _ _ ⟨Value.ref (s.heap.objs.size+1)::us,[]⟩ (Value.ref (s.heap.objs.size+1)::(us++ds)) _ _ E (hr.make C us [])
   (I2.env0.make C us []) (hb _ (Value.ref (s.heap.objs.size+1)::us) I2.kIn hl) r2 hq) fun r s' hq'=>?_))
 cases r with
 |error e=>exact hx pins σ _ _ e s' I2 hq'
 | ok fl=>
   cases fl with
   | ret u=>
     obtain⟨v,H',I3,rv,ev,q3⟩:=I2.after hq';subst ev;exact⟨rv,⟨V.ref (s.heap.objs.size+1),H',I3,rfl,q3⟩⟩
   |next=>exact False.elim hq'
   |brk=>exact False.elim hq'
   |cont=>exact False.elim hq'
theorem zvn(M:Mk X.K C f)(F:FnOk X.prog X.w X.K X.mg X.base CX k f fd ps sp)(hr:Room (k+1) X.A)(hg:Gl X x)(hm:X.mg x=some (.ref C))(hb:Binds X.K fd ps ds)(hd:Vals dvs ds)(hx:zep CX X E)
   (ha:PA X (e::es) t) (hdb:(x==("__debug__":Str))=false:=by decide) (he:starEach (e::es) X.env=(false,eval e X.env)::starEach es X.env:=by rfl) (hpl:(backTo pos (starEach es X.env)).any (·.1)=false:=by rfl) :
   PE X (.Call (.Name x p) (e::es) [] pos) (zxx C sp dvs E t):=by
 intro pins s σ H Q I h;refine z8t (zf7 I hg hm ?_ hdb);refine z96 (h₀:=X.base) I.ok.mod.kin M.kp (thn (ha pos pins s σ H _ I h) fun us s1 ⟨vs,H1,I1,r,q⟩=>⟨I1.kIn,?_⟩) he hpl;exact zri M F hr hb hd hx I1 r q
end
structure FnScope (N P:List Str) (sc:Scope):Prop where
 kind:sc.kind=.function
 co:sc.isCoroutine=false
 gen:sc.isGenerator=false
 nd:N.Nodup
 pre:N.take P.length=P
 par:∀x∈P,sc.names.lookup x=some .local\/sc.names.lookup x=some .cell
 nofree:∀y∈sc.names,y.2≠.free
theorem zib{kindOf:Str->Option NameKind}{x:Str}:∀{binds:List (Str×Value)}{m:zMg},(∀v,(x,v)∉binds)->bindL kindOf binds m x=m x
 | [],_,_=>rfl
 | (n,v)::r,m,h=>by
   unfold bindL;rw[zib fun w hw=>h w (z6r _ hw)];split
   · have:x≠n:=by rintro rfl;exact h v z6w
     simp[this]
   · rfl
theorem zid{kindOf:Str->Option NameKind}{x:Str}:∀{binds:List (Str×Value)}{m:zMg},(∀v,(x,v)∉binds)->bindC kindOf binds m x=m x
 | [],_,_=>rfl
 | (n,v)::r,m,h=>by
   unfold bindC;rw[zid fun w hw=>h w (z6r _ hw)];split
   · rfl
   · have:x≠n:=by rintro rfl;exact h v z6w
     simp[this]
theorem zic{kindOf:Str->Option NameKind}{x:Str}{v:Value}:∀{P:List Str}{vs:List Value}{i:Nat}{m:zMg},P.Nodup->P[i]? = some x->vs[i]? = some v->kindOf x=some .local ->
   bindL kindOf (P.zip vs) m x=some v
 | [],_,_,_,_,h,_,_=>by simp at h
 |_::_,[],_,_,_,_,h,_=>by simp at h
 | p::P,w::vs,0,m,nd,h1,h2,hk=>by simp at h1 h2;subst h1;subst h2;show bindL kindOf ((p,w)::P.zip vs) m p=_;unfold bindL;rw[zib fun v hv=>(z9f.mp nd).1 (z9g hv).1,z64 hk];simp
 | p::P,w::vs,i+1,m,nd,h1,h2,hk=>by show bindL kindOf ((p,w)::P.zip vs) m x=_;unfold bindL;exact zic (i:=i) (z9f.mp nd).2 (by simpa using h1) (by simpa using h2) hk
theorem zie{kindOf:Str->Option NameKind}{x:Str}{v:Value}:∀{P:List Str}{vs:List Value}{i:Nat}{m:zMg},P.Nodup->P[i]? = some x->vs[i]? = some v->kindOf x≠some .local ->
   bindC kindOf (P.zip vs) m x=some v
 | [],_,_,_,_,h,_,_=>by simp at h
 |_::_,[],_,_,_,_,h,_=>by simp at h
 | p::P,w::vs,0,m,nd,h1,h2,hk=>by simp at h1 h2;subst h1;subst h2;show bindC kindOf ((p,w)::P.zip vs) m p=_;unfold bindC;rw[zid fun v hv=>(z9f.mp nd).1 (z9g hv).1,z7a hk];simp
 | p::P,w::vs,i+1,m,nd,h1,h2,hk=>by show bindC kindOf ((p,w)::P.zip vs) m x=_;unfold bindC;exact zie (i:=i) (z9f.mp nd).2 (by simpa using h1) (by simpa using h2) hk
def start(N:List Str)(vs:List V):St:=vs.map some++List.replicate (N.length-vs.length) none
def zg4(CX:CXT)(P:Program)(w:World)(K:zFr)(mg:zMg)(base:Heap)(N:List Str)(qual:Str)(scope:Scope)(f:Addr)(cd:Value)(A:Around)(outer:List Env)(s:Shared)(H:Hp)(E:XK):Cx where
 prog:=P
 w:=w
 K:=K
 mg:=mg
 base:=base
 A:=A.deeper (envOfC qual scope s.heap.objs.size f cd)
 N:=N
 s₀:=s
 H₀:=H
 env:=envOfC qual scope s.heap.objs.size f cd
 outer:=outer
 stack:=envOfC qual scope s.heap.objs.size f cd::outer
 ex:=[]
 calm:=true
 fn:=fun _=>true
 pn:=[]
 xe:=fun e s'=>wpAny (model P w) (A.deeper (envOfC qual scope s.heap.objs.size f cd)) (leaving (envOfC qual scope s.heap.objs.size f cd) e) (fun _ s''=>CX outer H s E e s'') (fun e' s''=>CX outer H s E e' s'') s'
theorem zll{sc:Scope}{n:Nat}{x:Str}(h:sc.names.lookup x=some .cell):∃c,(cellsFrom n sc.names []).lookup x=some c:=by have q:=PySem.W.cellsFrom_some sc.names n [] (.inl h);exact z85.mp q
theorem zhq{CX:CXT}{P:Program}{w:World}{K:zFr}{mg:zMg}{base:Heap}{N ps:List Str}{qual:Str}{scope:Scope}{f:Addr}{cd:Value}{A:Around}{outer:List Env}{s s1:Shared}{H:Hp}{E:XK}{us:List Value}{vs:List V}
   (S:FnScope N ps scope) (hd:A.handled=none) (e0:Env0 P w K mg base A outer s H) (hl:vs.length=ps.length) (r:Vals vs us)
   (x:InCallC s s.heap.objs.size (bindL (envOfC qual scope s.heap.objs.size f cd).kindOf (ps.zip us) fun _=>none) (cellsFrom (s.heap.objs.size+1) scope.names []) (bindC (envOfC qual scope s.heap.objs.size f cd).kindOf (ps.zip us) fun _=>none) s1) :
   Inv (zg4 CX P w K mg base N qual scope f cd A outer s H E) [] (start N vs) H s1:=by
 have hpl:ps.length<=N.length:=by have:=z8y List.length S.pre;rw[z7e]at this;omega
 obtain⟨h1,tk,rfl,hk⟩:=x.done;have noA:∀b:Addr,b∉(zg4 CX P w K mg base N qual scope f cd A outer s H E).ex:=fun b z=>absurd (show b∈([]:List Addr)from z) (by simp);refine⟨⟨e0.mod,S.kind,rfl,rfl,z6l _,fun y z c h1 h2=>?_,fun y hy=>?_,fun y c _ h=>?_,fun _=>hd,Around.frames_deeper e0.frames,.inr ⟨rfl,rfl⟩,fun b z=>absurd z (noA b),e0.bs,e0.bsz,fun b _ _=>noA b,fun b z=>absurd z (noA b),e0.funs,e0.frf⟩,
   rfl,e0.bare,Un.kept hk,⟨_,x.toInCall.ns,fun i y v h1 h2 h3=>?_⟩,fun y c h=>⟨_,x.cell y c h⟩,e0.hok.fresh (z6l _),fun y c h=>?_,fun p hp=>absurd (show p∈([]:zAO)from hp) (by simp),e0.hok.kept hk,?_⟩
 · exact name_of_addr x.apart (z8z h1) (z8z h2)
 · have hy:scope.names.lookup y=some .cell\/scope.names.lookup y=some .free:=hy;rcases hy with hy | hy
   · exact zll hy
   · exact absurd rfl (S.nofree _ (z8z hy))
 · exact z8h (x.above y c (z8z h))
 · have hi:i<vs.length:=by
     unfold start at h2;by_cases hi:i<vs.length
     · exact hi
     · rw[z6y (by simpa using hi)]at h2;rw[List.getElem?_replicate]at h2;split at h2<;>cases h2
   have ha:vs[i]? = some v:=by
     unfold start at h2;rw[z7d (by simpa using hi),z72]at h2;cases e:vs[i]? with
     |none=>rw[e]at h2;cases h2
     |some a=>rw[e]at h2;cases h2;rfl
   obtain⟨u,hu,rv⟩:=r.get ha;have hp:ps[i]? = some y:=by rw[<-S.pre,z9p (by omega)];exact h1
   have ndP:ps.Nodup:=by rw[<-S.pre];exact S.nd.sublist (qa0 _ _)
   refine⟨u,rv,?_⟩;rcases S.par y (z7n hp)with k | k
   · exact .inl ⟨k,zic ndP hp hu k⟩
   · obtain⟨c,e⟩:=zll (n:=s.heap.objs.size+1) k;refine .inr ⟨.inl k,c,e,?_⟩;have q:=x.cell y c e;rw[zie ndP hp hu (by show scope.names.lookup y≠_;rw[k];decide)]at q;exact q
 · exact e0.hok.fresh (z8h (x.above y c (z8z h)))
 · unfold start;show _=N.length;rw[z6k,z8s,List.length_replicate];omega
theorem zwm{CX:CXT}{P:Program}{w:World}{K:zFr}{mg:zMg}{base:Heap}{k:Nat}{f:Addr}{name qual:Str}{params:Arguments}{body:List Stmt}{scope:Scope}{dV kV doc pm cdv ct oc:Value}{an od:Option Addr}
   {osl:Array (Option Value)}{N ps:List Str}{sp:Sp} (lk:K.lookup f=some ⟨oc,od,.func (PySem.W.fnOf name qual params body scope dV kV doc pm an cdv ct),osl⟩) (hcd:PySem.W.codeIn K cdv qual=true) (S:FnScope N ps scope)
   (len:∀vs H Q E,sp vs H Q E->vs.length=ps.length)
   (hbody:∀(A:Around) (outer:List Env) (s:Shared) (H:Hp) (vs:List V) (Q:VK) (E:XK),Room k (A.deeper (envOfC qual scope s.heap.objs.size f cdv))->sp vs H Q E ->
     ∃t,PSs (zg4 CX P w K mg base N qual scope f cdv A outer s H E) body t/\t { nx:=fun _ H'=>Q .non H',rt:=Q } (start N vs) H) :
   FnOk P w K mg base CX (k+1) f (PySem.W.fnOf name qual params body scope dV kV doc pm an cdv ct) ps sp:=by
 refine⟨len,fun A outer s H args us vs Q E hr e0 hb r hsp=>?_⟩;have hl:=len _ _ _ _ hsp;have KX:K.In s.heap:=e0.mod.kin.keeps fun b o e=>(e0.bs b o e).1;have lim:s.heap.NoLimit:=e0.mod.nolimit.keeps fun b o e=>(e0.bs b o e).1;have hkind:∀y∈ps.zip us,scope.names.lookup y.1=some .local\/(scope.names.lookup y.1=some .cell/\((cellsFrom (s.heap.objs.size+1) scope.names []).lookup y.1).isSome=true):=fun⟨n,v⟩ hy=>by
   rcases S.par n (z9g hy).1 with q | q
   · exact .inl q
   · exact .inr ⟨q,PySem.W.cellsFrom_some _ _ _ (.inl q)⟩
 refine codeAny_call_function hr.depth (KX _ _ lk) rfl S.co S.gen rfl (PySem.W.codeRec_of KX hcd) (hb _ _ _ _ ?_);refine wpAny_newFunctionEnv_cells S.kind hkind fun env he s1 x=>?_;subst he;refine⟨lim.keeps x.toInCall.keep,codeAny_func ?_⟩;obtain⟨t,ht,hq⟩:=hbody A outer s H vs Q E (hr.deeper _) hsp;have I:Inv (zg4 CX P w K mg base N qual scope f cdv A outer s H E) [] (start N vs) H s1:=zhq S hr.hd e0 hl r x;refine z8o (ht [] s1 (start N vs) H _ I hq) (fun fl s' hs=>?_) fun e s' hs=>hs;have fin:∀{σ':St}{H':Hp}{v:V}{u:Value},Inv (zg4 CX P w K mg base N qual scope f cdv A outer s H E) [] σ' H' s'->RelV v u->Q v H'->CE outer P w H s Q u s' :=
   fun {σ' H' v u} J rv q=>⟨v,H',J.os,J.bare,J.base,J.hok,rv,q⟩
 cases fl with
 | ret u=>
   obtain⟨v,σ',H',J,rv,q⟩:=hs;exact fin J rv q
 | next=>
   obtain⟨σ',H',J,q⟩:=hs;exact fin (v:=V.non) (u:=Value.none) J rfl q
 | brk=>
   obtain⟨_,_,_,q⟩:=hs;exact False.elim q
 | cont=>
   obtain⟨_,_,_,q⟩:=hs;exact False.elim q
section
variable {X:Cx}{x:Str}{p pos:Pos}{e:Expr}{es:List Expr}{t:TA}{id T:String}{r:List V->Hp->VK->Prop}
def tCB(r:List V->Hp->VK->Prop)(t:TA):TE:=fun σ H Q=>t σ H fun vs H1=>r vs H1 Q
theorem zrz(hc:CallR X (.builtin id) r)(hg:Gl X x)(hm:X.mg x=none)(hv:bootBuiltins x=some (.builtin id))(ha:PA X (e::es) t)(hn:x≠"__name__":=by decide)(hdb:(x==("__debug__":Str))=false:=by decide)
   (he:starEach (e::es) X.env=(false,eval e X.env)::starEach es X.env:=by rfl) (hpl:(backTo pos (starEach es X.env)).any (·.1)=false:=by rfl):PE X (.Call (.Name x p) (e::es) [] pos) (tCB r t):=by
 intro pins s σ H Q I h;refine z8t (zdw I hg hm hv ?_ hn hdb);exact PyProof.Rows.callWith_builtin1 (thn (ha pos pins s σ H _ I h) fun us s1 ⟨vs,H1,I1,r1,q1⟩=>hc pins s1 σ H1 vs us Q I1 r1 q1) he hpl
theorem zom(hc:CallR X (.type T) r)(hg:Gl X x)(hm:X.mg x=none)(hv:bootBuiltins x=some (.type T))(ha:PA X (e::es) t)(hn:x≠"__name__":=by decide)(hdb:(x==("__debug__":Str))=false:=by decide)
   (he:starEach (e::es) X.env=(false,eval e X.env)::starEach es X.env:=by rfl) (hpl:(backTo pos (starEach es X.env)).any (·.1)=false:=by rfl):PE X (.Call (.Name x p) (e::es) [] pos) (tCB r t):=by
 intro pins s σ H Q I h;refine z8t (zdw I hg hm hv ?_ hn hdb);exact z9e (thn (ha pos pins s σ H _ I h) fun us s1 ⟨vs,H1,I1,r1,q1⟩=>hc pins s1 σ H1 vs us Q I1 r1 q1) he hpl
end
end L2
namespace HT
open PySem PyProof.Rows
theorem eqAt_int(A:Around)(s:Shared)(a:Int)(t:Tok)(c:Int)(u:Tok):∃e,SeqAt.EqAt A s (.int a t) (.int c u) e/\(e=true↔a=c) :=
 ⟨(a==c),SeqAt.EqAt.int_int a t c u,by simp⟩
theorem rcLt_int(A:Around)(s:Shared)(a:Int)(t:Tok)(c:Int)(u:Tok)(prog:Program)(w:World)(E:zVP)(Q:zVP)(h:Q (.bool (decide (a<c))) s) :
   wpAny (model prog w) A (richCompare .Lt (.int a t) (.int c u)) Q E s :=
 (PyProof.Rows.lt_int h:wpAny (model prog w) A (compareOp .Lt (.int a t) (.int c u)) Q E s)
section
open PySem.SeqAt
open PySem.AutoSeq1 (wpAny_loadPart')
open PySem.MeetsSeq PySem.MeetsSeq2 PySem.MeetsSeq3
end
section
variable {prog:Program}{w:World}{A:Around}{E:zVP}{s:Shared}
theorem cat_tup{t b:Addr}{vs ws:List Value}{Q:zVP}(ht:IsTup s.heap t vs.toArray)(hb:IsTup s.heap b ws.toArray)(hv:vs≠[])
   (h1:ws=[]->Q (.ref t) s) (h2:ws≠[]->Q (.ref s.heap.objs.size) { s with heap:=s.heap.push { cls:=.type "tuple",data:=.seq (vs++ws).toArray } })
   (hsz:vs.length+ws.length<=sizeLine):wpAny (model prog w) A (binaryOp .Add (.ref t) (.ref b)) Q E s:=by
 obtain⟨⟨cls,dd,data,sl⟩,ho,hc,n,hd⟩:=id ht;obtain⟨⟨cls2,dd2,data2,sl2⟩,ho2,hc2,n2,hd2⟩:=id hb;simp only at hc hd hc2 hd2;subst hc hd hc2 hd2;have e:vs.toArray++ws.toArray=(vs++ws).toArray:=by simp
 by_cases hw:ws=[]
 · exact qb6 ⟨_,ho,rfl⟩ ⟨_,ho2,rfl⟩ noFill_tuple_add seq_tuple_add qax qas (qaq _ _)
     (tuple_addW1 t b vs.toArray ws.toArray n n2 dd dd2 sl sl2 (by simpa using hv) (by simp[hw])) ⟨ho,ho2,h1 hw⟩
 · refine qb6 ⟨_,ho,rfl⟩ ⟨_,ho2,rfl⟩ noFill_tuple_add seq_tuple_add qax qas (qaq _ _)
     (tuple_addW2 t b vs.toArray ws.toArray n n2 dd dd2 sl sl2 (by simpa using hv) (by simpa using hw) (by rw[z6v,z6v];exact hsz)) ⟨ho,ho2,?_⟩
   rw[e];exact h2 hw
def sIx(n d:Nat):Option Int->Nat
 |none=>d
 |some v=>if v<0 then (v+(n:Int)).toNat else min v.toNat n
theorem zye(n d:Nat)(hd:d<=n)(o:Option Int):sIx n d o<=n:=by
 cases o with
 |none=>exact hd
 | some v=>
   show(if v<0 then (v+(n:Int)).toNat else min v.toNat n)<=n;by_cases hv:v<0
   · rw[z64 hv];omega
   · rw[z7a hv];exact Nat.min_le_right _ _
theorem zql(v:Int)(n d:Nat):(if v<0 then max (v+(n:Int)) 0 else min v (n:Int))=((sIx n d (some v):Nat):Int):=by
 show(if v<0 then max (v+(n:Int)) 0 else min v (n:Int))=(((if v<0 then (v+(n:Int)).toNat else min v.toNat n):Nat):Int)
 by_cases hv:v<0
 · simp only[z64 hv];omega
 · simp only[z7a hv];omega
theorem zm4(lo hi:Option Int)(n:Nat):Builtin.Slice.sliceAdjust lo hi 1 (n:Int)=(((sIx n 0 lo:Nat):Int),((sIx n n hi:Nat):Int)):=by
 have h1:¬ ((1:Int)<0):=by omega
 unfold Builtin.Slice.sliceAdjust;simp only[h1,z8d];refine Prod.ext ?_ ?_
 · cases lo with
   |none=>rfl
   |some v=>exact zql v n 0
 · cases hi with
   |none=>rfl
   |some v=>exact zql v n n
theorem zl4(i j:Nat):Builtin.Slice.slicePlaces (i:Int) (j:Int) 1=j-i:=by
 unfold Builtin.Slice.slicePlaces;have h1:(1:Int)>0:=by omega
 simp only[h1,z8f,Int.ediv_one];split<;>omega
theorem ze3{v:Value}{o:Option Int}{Q:Option Int->Shared->Prop}(p:IsPart v o)(h:Q o s):wpAny (model prog w) A (Builtin.Slice.slicePartIndex v) Q E s:=by
 cases p with
 |none=>exact slicePart_none h
 |int i t=>exact slicePart_int h
theorem zcz{sl:Addr}{vl vu:Value}{lo hi:Option Int}{n:Nat}{Q:Int×Int×Nat->Shared->Prop}(hs:s.heap.IsSliceOf sl vl vu .none)(pl:IsPart vl lo)(pu:IsPart vu hi)
   (h:Q (((sIx n 0 lo:Nat):Int),1,sIx n n hi-sIx n 0 lo) s):wpAny (model prog w) A (Builtin.Slice.sliceApplied (.ref sl) (pure (n:Int))) Q E s:=by
 obtain⟨os,hos,hcs,hds⟩:=id hs;unfold Builtin.Slice.sliceApplied Builtin.Slice.sliceFields;refine z6m (z6m (wpAny_field hos hds (x:=vl) rfl (z6m (wpAny_field hos hds (x:=vu) rfl (z6m (wpAny_field hos hds (x:=.none) rfl (z7g ?_)))))));refine z6m (slicePart_none ?_);show wpAny _ _ (if((1:Int)==0)=true then _ else _) _ _ s;rw[z7a (by decide)];refine z6m (ze3 pl (z6m (ze3 pu (z6m (z7g ?_)))));show wpAny _ _ (match Builtin.Slice.sliceAdjust lo hi 1 (n:Int)with | (lo,hi)=>pure (lo,(1:Int),Builtin.Slice.slicePlaces lo hi 1)) _ _ s;rw[zm4 lo hi n];show wpAny _ _ (pure (((sIx n 0 lo:Nat):Int),(1:Int),Builtin.Slice.slicePlaces ((sIx n 0 lo:Nat):Int) ((sIx n n hi:Nat):Int) 1)) _ _ s;rw[zl4];exact z7g h
theorem zrw(xs:Array Value)(i k:Nat):((List.range k).filterMap fun(m:Nat)=>xs[((i:Int)+(m:Int)*1).toNat]?).toArray=((xs.toList.drop i).take k).toArray:=by
 have e:(fun(m:Nat)=>xs[((i:Int)+(m:Int)*1).toNat]?)=fun m=>xs[i+m]?:=by
   funext m;have:((i:Int)+(m:Int)*1).toNat=i+m:=by omega
   rw[this]
 rw[e];have:=pick_run xs i k;rw[List.filterMap_map]at this;have e2:((fun x=>xs[x]?)∘fun x=>i+x)=fun m=>xs[i+m]?:=rfl;rw[e2]at this;rw[this]
theorem getItem_tuple_cut{t sl:Addr}{items:Array Value}{vl vu:Value}{lo hi:Option Int}{Q:zVP}(ht:IsTup s.heap t items)(hs:s.heap.IsSliceOf sl vl vu .none)(pl:IsPart vl lo)(pu:IsPart vu hi)
   (hw:¬ (sIx items.size 0 lo=0/\sIx items.size items.size hi=items.size))
   (h:Q (.ref s.heap.objs.size) { s with heap:=s.heap.push { cls:=.type "tuple",data:=.seq ((items.toList.drop (sIx items.size 0 lo)).take (sIx items.size items.size hi-sIx items.size 0 lo)).toArray } })
   (hsz:items.size<=sizeLine):wpAny (model prog w) A (getItem (.ref t) (.ref sl)) Q E s:=by
 have htake:sizeOk (.seq ((items.toList.drop (sIx items.size 0 lo)).take (sIx items.size items.size hi-sIx items.size 0 lo)).toArray):=by show((items.toList.drop (sIx items.size 0 lo)).take (sIx items.size items.size hi-sIx items.size 0 lo)).toArray.size<=sizeLine;rw[z6v,z7e,z7f,Array.length_toList];omega
 have hj:sIx items.size items.size hi<=items.size:=zye _ _ (z6l _) hi;obtain⟨os,hos,hcs,hds⟩:=id hs;have hTs:s.TypeIs (.ref sl) "slice":=⟨os,hos,hcs⟩
 unfold getItem
 try with_reducible refine wpAny_holding ?_
 first | refine z6m (z7g ?_) | skip
 refine z6m (wpAny_sequenceKey ht.typeIs (by decide) ?_);refine z6m (wpAny_callSpecial?_slot (name:=Str.ofString "__getitem__") ht.typeIs z9q
   (wpAny_call_entry z9q ht.typeIs entry_tuple_getitem ?_ (args_tuple_getitem _ _)))
 show wpAny _ _ (Builtin.Tuple.tupleItemsOf (.ref t) >>= _) _ _ s;refine z6m (tupleItemsOf_ ht ?_);refine z6m (wpAny_typeOf hTs ?_);rw[z64 (by decide)];refine z6m (zcz hs pl pu ?_);have hno:¬ ((((sIx items.size 0 lo:Nat):Int)==0&&(1:Int)==1&&(sIx items.size items.size hi-sIx items.size 0 lo)==items.size)=true):=by intro q;rw[z8e,z8e]at q;have q1:((sIx items.size 0 lo:Nat):Int)=0:=eq_of_beq q.1.1;have q2:sIx items.size items.size hi-sIx items.size 0 lo=items.size:=eq_of_beq q.2;exact hw ⟨by omega,by omega⟩
 show wpAny _ _ (if(((sIx items.size 0 lo:Nat):Int)==0&&(1:Int)==1&&(sIx items.size items.size hi-sIx items.size 0 lo)==items.size)=true then _ else _) _ _ s;rw[z7a hno,zrw]
 first
   |exact z6m (m:=Builtin.Tuple.tupleExact _) (qac (z7g ⟨_,rfl,z7g h⟩) htake)
   |exact z6m (m:=Builtin.Tuple.tupleExact _) (qac (z6m (z7g (z7g ⟨_,rfl,z7g h⟩))) htake)
   |exact z6m (z6m (m:=Builtin.Tuple.tupleExact _) (qac (z7g (z7g ⟨_,rfl,z7g h⟩)) htake))
   |exact z6m (z6m (m:=Builtin.Tuple.tupleExact _) (qac (z7g ⟨_,rfl,z7g h⟩) htake))
end
end HT
namespace L2
open PySem PySem.Spec PyProof.Rows
abbrev TO:=St->Hp->(Option Int->Hp->Prop)->Prop
def PO(X:Cx)(e:Option Expr)(t:TO):Prop :=
 ∀(pins:zAO) (s:Shared) (σ:St) (H:Hp) (Q:Option Int->Hp->Prop),Inv X pins σ H s->t σ H Q ->
   wpAny (model X.prog X.w) X.A (evalPart e X.env) (fun u s'=>∃o H',Inv X pins σ H' s'/\IsPart u o/\Q o H') X.xe s
def zuw:TO:=fun _ H Q=>Q none H
def z2c(t:TE):TO:=fun σ H Q=>t σ H fun x H1=>∃i,x=.int i/\Q (some i) H1
section
variable {X:Cx}{e:Expr}{te:TE}{lo hi:Option Expr}{tl th:TO}{pos p2:Pos}
theorem zvl:PO X none zuw:=by intro pins s σ H Q I h;rw[evalPart_none];exact z7g ⟨none,H,I,.none,h⟩
theorem zvk(h:PE X e te):PO X (some e) (z2c te):=by intro pins s σ H Q I hw;rw[evalPart_some];refine thn (h pins s σ H _ I hw) fun u s1 ⟨x,H1,I1,r1,q1⟩=>?_;obtain⟨i,rfl,q⟩:=q1;obtain⟨t,rfl⟩:=r1;exact⟨some i,H1,I1,.int i t,q⟩
def SlR(X:Cx)(r:V->Option Int->Option Int->Hp->VK->Prop):Prop :=
 ∀(pins:zAO) (s:Shared) (σ:St) (H:Hp) (x:V) (v vl vu:Value) (lo hi:Option Int) (sl:Addr) (Q:VK),Inv X pins σ H s->RelV x v->s.heap.IsSliceOf sl vl vu .none->IsPart vl lo->IsPart vu hi->r x lo hi H Q ->
   ∃T id,typeLookup (.type T) "__getitem__"=pure (some (.builtin id))/\s.TypeIs v T/\wpAny (model X.prog X.w) X.A (getItem v (.ref sl)) (EP X pins σ Q) X.xe s
theorem SlR.or{r r':V->Option Int->Option Int->Hp->VK->Prop}(h:SlR X r)(h':SlR X r'):SlR X (fun x lo hi H Q=>r x lo hi H Q\/r' x lo hi H Q):=by
 intro pins s σ H x v vl vu lo hi sl Q I rx hs pl pu q;rcases q with q | q
 · exact h pins s σ H x v vl vu lo hi sl Q I rx hs pl pu q
 · exact h' pins s σ H x v vl vu lo hi sl Q I rx hs pl pu q
def tSl(r:V->Option Int->Option Int->Hp->VK->Prop)(te:TE)(tl th:TO):TE:=fun σ H Q=>te σ H fun x H1=>tl σ H1 fun l H2=>th σ H2 fun u H3=>r x l u H3 Q
theorem zkn{r:V->Option Int->Option Int->Hp->VK->Prop}(hr:SlR X r)(he:PE X e te)(hl:PO X lo tl)(hu:PO X hi th):PE X (.Subscript e (.Slice lo hi none p2) pos) (tSl r te tl th):=by intro pins s σ H Q I h;refine Subscript_ (thn (he pins s σ H _ I h) fun v s1 ⟨x,H1,I1,r1,q1⟩=>?_);refine wpAny_Slice (thn (hl pins s1 σ H1 _ I1 q1) fun vl s2 ⟨l,H2,I2,pl,q2⟩=>thn (hu pins s2 σ H2 _ I2 q2) fun vu s3 ⟨u,H3,I3,pu,q3⟩=>?_);rw[evalPart_none];refine z7g ?_;have I4:Inv X pins σ H3 { s3 with heap:=s3.heap.push { cls:=.type "slice",data:=.fields #[vl,vu,.none] } }:=I3.kept (t':=s3.toks) fun b ob q=>z6u _ q;obtain⟨T,id,hT,ht,hg⟩:=hr pins { s3 with heap:=s3.heap.push { cls:=.type "slice",data:=.fields #[vl,vu,.none] } } σ H3 x v vl vu l u s3.heap.objs.size Q I4 r1 (Heap.IsSliceOf.new ..) pl pu q3;show wpAny (model X.prog X.w) X.A (subscriptTail e (.Slice lo hi none p2) v (.ref s3.heap.objs.size)) (EP X pins σ Q) X.xe { s3 with heap:=s3.heap.push { cls:=.type "slice",data:=.fields #[vl,vu,.none] } };exact tail_any (ops:=[.ref s3.heap.objs.size,v]) ht hT hg (by with_unfolding_all rfl)
def zuh(xs:List V)(lo hi:Option Int):List V:=(xs.drop (HT.sIx xs.length 0 lo)).take (HT.sIx xs.length xs.length hi-HT.sIx xs.length 0 lo)
theorem zec(xs:List V)(lo hi:Option Int):(zuh xs lo hi).length<=xs.length:=by unfold zuh;rw[z7e,z7f];omega
def z5t(K:zFr):V->Option Int->Option Int->Hp->VK->Prop:=fun x lo hi H Q=>∃a xs,x=.ref a/\SqT K H a xs /\
 ¬ (HT.sIx xs.length 0 lo=0/\HT.sIx xs.length xs.length hi=xs.length)/\∀p,H p=none->Q (.ref p) (upd H p (.tup (zuh xs lo hi)))
theorem zx5:SlR X (z5t X.K):=by
 intro pins s σ H x v vl vu lo hi sl Q I rx hs pl pu h;obtain⟨a,xs,rfl,hx,hw,q⟩:=h;cases rx;obtain⟨its,r,ht,hz⟩:=I.tuple hx;have hlen:its.toArray.size=xs.length:=by rw[z6v];exact r.length.symm
 refine⟨"tuple",_,z9q.lookup,ht.typeIs,?_⟩;refine HT.getItem_tuple_cut ht hs pl pu (by rw[hlen];exact hw) ?_ (by rw[hlen];exact hz);rw[hlen];refine⟨.ref s.heap.objs.size,_,I.laid (t':=s.toks) (o:=.tup (zuh xs lo hi)) (fun b ob q=>z6u _ q) (z6l _) ?_,rfl,q _ (I.hok.fresh (z6l _))⟩;exact⟨z67 (zec xs lo hi) hz,_,(r.drop (HT.sIx xs.length 0 lo)).take (HT.sIx xs.length xs.length hi-HT.sIx xs.length 0 lo),IsTup.new _ _⟩
def zvb(K:zFr):R2:=fun x y H Q=>∃a b xs ys,x=.ref a/\y=.ref b/\SqT K H a xs/\SqT K H b ys/\xs≠[]/\xs.length+ys.length<=sizeLine /\
 (ys=[]->Q (.ref a) H)/\(ys≠[]->∀p,H p=none->Q (.ref p) (upd H p (.tup (xs++ys))))
theorem Vals.nil_iff{xs:List V}{us:List Value}(r:Vals xs us):us=[]↔xs=[]:=by
 cases r with
 |nil=>simp
 |cons _ _=>simp
theorem op_catT:OpR X (binaryOp .Add) (zvb X.K):=by intro pins s σ H x y v u Q I rx ry h;obtain⟨a,b,xs,ys,rfl,rfl,ha,hb,hx,hz,q1,q2⟩:=h;cases rx;cases ry;obtain⟨its,r1,p1,_⟩:=I.tuple ha;obtain⟨its2,r2,p2,_⟩:=I.tuple hb;refine HT.cat_tup p1 p2 (fun z=>hx (r1.nil_iff.mp z)) (fun z=>⟨.ref a,H,I,rfl,q1 (r2.nil_iff.mp z)⟩) (fun z=>?_) (by rw[<-r1.length,<-r2.length];exact hz);refine⟨.ref s.heap.objs.size,_,I.laid (t':=s.toks) (o:=.tup (xs++ys)) (fun b ob q=>z6u _ q) (z6l _) ?_,rfl,q2 (fun w=>z (r2.nil_iff.mpr w)) _ (I.hok.fresh (z6l _))⟩;exact⟨by rw[z6k];exact hz,_,r1.append r2,IsTup.new _ _⟩
end
def ixN(n:Nat)(i:Int):Option Nat:=if 0<=i then (if i<n then some i.toNat else none)else if -(n:Int)<=i then some (i+n).toNat else none
def atI{α:Type}(xs:List α)(i:Int):Option α:=(ixN xs.length i).bind fun j=>xs[j]?
theorem zpf{n:Nat}{i:Int}{j:Nat}(h:ixN n i=some j):seqIndex? i n=some j/\j<n/\-(n:Int)<=i/\i<n:=by
 unfold ixN at h;by_cases h0:0<=i
 · rw[z64 h0]at h;by_cases h1:i<n
   · rw[z64 h1]at h;have e:i.toNat=j:=z7s h;exact⟨by rw[seqIndex_of h0 h1,e],by omega,by omega,h1⟩
   · rw[z7a h1]at h;cases h
 · rw[z7a h0]at h;by_cases h1:-(n:Int)<=i
   · rw[z64 h1]at h;have e:(i+n).toNat=j:=z7s h;exact⟨by rw[seqIndex_neg (by omega) h1,e],by omega,h1,by omega⟩
   · rw[z7a h1]at h;cases h
theorem zj0{α:Type}{xs:List α}{i:Int}{v:α}(h:atI xs i=some v):∃j,seqIndex? i xs.length=some j/\xs[j]? = some v/\j<xs.length/\-(xs.length:Int)<=i/\i<xs.length:=by
 unfold atI at h;cases e:ixN xs.length i with
 |none=>rw[e]at h;cases h
 | some j=>
   rw[e]at h;obtain⟨h1,h2,h3,h4⟩:=zpf e;exact⟨j,h1,h,h2,h3,h4⟩
theorem zen{α:Type}{xs:List α}{j:Nat}{v:α}(h:xs[j]? = some v):atI xs (j:Int)=some v:=by
 have hj:j<xs.length:=(z6o.mp h).1;have e:ixN xs.length (j:Int)=some j:=by unfold ixN;rw[z64 (by omega),z64 (by omega)];simp
 unfold atI;rw[e];exact h
def zqy(b:Expr):Prop:=∀o i,subscripted b false o i=operate [o,i] (getItem o i)
def IxR(X:Cx)(r:R2):Prop :=
 ∀(value slice:Expr) (pins:zAO) (s:Shared) (σ:St) (H:Hp) (x y:V) (v u:Value) (Q:VK),Inv X pins σ H s->RelV x v->RelV y u->r x y H Q ->
   subscripted slice false v u=operate [v,u] (getItem v u)->wpAny (model X.prog X.w) X.A (subscriptTail value slice v u) (EP X pins σ Q) X.xe s
def MtR(X:Cx)(id:String)(r:V->List V->Hp->VK->Prop):Prop :=
 ∀(pins:zAO) (s:Shared) (σ:St) (H:Hp) (x:V) (xs:List V) (v:Value) (us:List Value) (Q:VK),Inv X pins σ H s->RelV x v->Vals xs us->r x xs H Q ->
   wpAny (model X.prog X.w) X.A (call (.builtin id) (v::us)) (EP X pins σ Q) X.xe s
section
variable {X:Cx}{a b:Expr}{ta tb:TE}{pos:Pos}
theorem IxR.or{r r':R2}(h:IxR X r)(h':IxR X r'):IxR X (fun x y H Q=>r x y H Q\/r' x y H Q):=by
 intro value slice pins s σ H x y v u Q I rx ry q hs;rcases q with q | q
 · exact h value slice pins s σ H x y v u Q I rx ry q hs
 · exact h' value slice pins s σ H x y v u Q I rx ry q hs
theorem z2v{r:R2}(hr:IxR X r)(ha:PE X a ta)(hb:PE X b tb)(hs:zqy b):PE X (.Subscript a b pos) (tOp r ta tb):=by intro pins s σ H Q I h;exact Subscript_ (z3y ha hb I h fun v u s2 x y H2 I2 rx ry q=>hr a b pins s2 σ H2 x y v u Q I2 rx ry q (hs _ _))
def z4p(K:zFr):R2:=fun x y H Q=>∃p xs i v,x=.ref p/\y=.int i/\SqL K H p xs/\atI xs i=some v/\Q v H
def z4n(K:zFr):R2:=fun x y H Q=>∃p xs i v,x=.ref p/\y=.int i/\SqT K H p xs/\atI xs i=some v/\Q v H
def z4o:R2:=fun x y H Q=>∃z i c,x=.str z/\y=.int i/\z.length<=sizeLine/\atI z.cps.toList i=some c/\Q (.str ⟨#[c]⟩) H
theorem ix_list:IxR X (z4p X.K):=by
 intro value slice pins s σ H x y v u Q I rx ry h hs;obtain⟨p,xs,i,z,rfl,rfl,hq,he,q⟩:=h;cases rx;obtain⟨t,rfl⟩:=ry;obtain⟨its,r,pl,hz⟩:=I.list hq;obtain⟨j,h1,h2,h3,h4,h5⟩:=zj0 he;obtain⟨w,ew,rw'⟩:=r.get h2;have hl:=r.length;have hn:=ze9;have fin:EP X pins σ Q w s:=⟨z,H,I,rw',q⟩
 by_cases h0:0<=i
 · have hj:i.toNat=j:=by rw[seqIndex_of h0 h5]at h1;exact z7s h1
   exact item_listR pl.isList h0 (by omega) (by rw[hj];simpa using ew) fin hs
 · have hj:(i+(its.toArray.size:Int)).toNat=j:=by rw[seqIndex_neg (by omega) h4]at h1;rw[z6v,<-hl];exact z7s h1
   exact subscriptTail_builtinR (x:=w) pl.isList.typeIs slot_list_getitem.lookup
     (wpAny_getItem_list_neg (Q:=fun r s'=>r=w/\EP X pins σ Q r s') pl.isList (by omega) (by rw[z6v]<;>omega) (by omega) (by rw[hj];simpa using ew) ⟨rfl,fin⟩) hs
theorem ix_tup:IxR X (z4n X.K):=by
 intro value slice pins s σ H x y v u Q I rx ry h hs;obtain⟨p,xs,i,z,rfl,rfl,hq,he,q⟩:=h;cases rx;obtain⟨t,rfl⟩:=ry;obtain⟨its,r,pl,hz⟩:=I.tuple hq;obtain⟨j,h1,h2,h3,h4,h5⟩:=zj0 he;obtain⟨w,ew,rw'⟩:=r.get h2;have hl:=r.length;have hn:=ze9;have fin:EP X pins σ Q w s:=⟨z,H,I,rw',q⟩
 exact subscriptTail_builtinR (x:=w) pl.typeIs slot_tuple_getitem.lookup
   (getItem_tuple (j:=j) (Q:=fun r s'=>r=w/\EP X pins σ Q r s') pl (by omega) (by omega) (by rw[z6v,<-hl];exact h1) (by simpa using ew) ⟨rfl,fin⟩) hs
theorem zz6:IxR X z4o:=by
 intro value slice pins s σ H x y v u Q I rx ry h hs;obtain⟨z,i,c,rfl,rfl,hz,he,q⟩:=h;obtain⟨t,rfl⟩:=rx;obtain⟨t',rfl⟩:=ry;obtain⟨j,h1,h2,h3,h4,h5⟩:=zj0 he;have hl:z.cps.toList.length=z.length:=by simp[Str.length]
 rw[hl]at h1 h4 h5;have hn:=ze9;exact tail_any (typeIs_str s z t) slot_str_getitem.lookup (getItem_str (c:=c) (by
   have e1:decide (i < -(2^63:Int))=false:=z60 (by omega);have e2:decide (i ≥ 2^63)=false:=z60 (by omega);rw[e1,e2,Bool.or_false]) (by rw[h1];simpa using h2) ⟨.str ⟨#[c]⟩,H,I.tok _,⟨_,rfl⟩,q⟩) hs
def rIx(K:zFr):R2:=fun x y H Q=>z4p K x y H Q\/z4n K x y H Q\/z4o x y H Q
theorem zz7:IxR X (rIx X.K):=ix_list.or (ix_tup.or zz6)
theorem zmb(its:List Value)(n j:Nat)(u:Value):Obj.mapSeq (·.setIfInBounds j u) { cls:=.type "list",data:=.seq its.toArray n }={ cls:=.type "list",data:=.seq (its.set j u).toArray n }:=by simp[Obj.mapSeq]
theorem Inv.lst{pins:zAO}{σ:St}{H:Hp}{s:Shared}{p:Addr}{xs:List V}(I:Inv X pins σ H s)(h:H p=some (.lst xs)) :
   ∃(its:List Value) (n:Nat),Vals xs its/\s.heap.get? p=some { cls:=.type "list",data:=.seq its.toArray n }/\xs.length<=sizeLine:=by
 obtain⟨z,its,n,r,e⟩:=I.hok p _ h;exact⟨its,n,r,e,z⟩
theorem Inv.lstUpd{pins:zAO}{σ:St}{H:Hp}{s:Shared}{p:Addr}{xs ys:List V}{its its':List Value}{n n':Nat}{f:Obj->Obj}(I:Inv X pins σ H s)(h:H p=some (.lst xs))
   (ho:s.heap.get? p=some { cls:=.type "list",data:=.seq its.toArray n }) (hf:f { cls:=.type "list",data:=.seq its.toArray n }={ cls:=.type "list",data:=.seq its'.toArray n' }) (r:Vals ys its') (hz:ys.length<=sizeLine) (t:Nat) :
   Inv X pins σ (upd H p (.lst ys)) { s with heap:=s.heap.update p f,toks:=t }:=by
 have e:(s.heap.update p f).get? p=some { cls:=.type "list",data:=.seq its'.toArray n' }:=by rw[Heap.get?_update_self f ho (by rw[hf]<;>rfl),hf]
 refine I.write (x:=p) (e:=p) (by rw[h];trivial) (.inl rfl) (fun b u hb q=>(qay _ _ (z9m hb)).trans q) ⟨_,e⟩ ?_;exact⟨hz,its',n',r,e⟩
def z2p:V->V->V->Hp->(Hp->Prop)->Prop:=fun o i v H Q=>∃p xs k j,o=.ref p/\i=.int k/\H p=some (.lst xs)/\ixN xs.length k=some j/\Q (upd H p (.lst (xs.set j v)))
theorem zrh:z47 X z2p:=by
 intro pins s σ H o i v ov iv u Q I ro ri rv h;obtain⟨p,xs,k,j,rfl,rfl,hp,hj,q⟩:=h;cases ro;obtain⟨t,rfl⟩:=ri;obtain⟨its,n,r,ho,hz⟩:=I.lst hp;obtain⟨h1,h2,h3,h4⟩:=zpf hj;have hl:=r.length;have hn:=ze9;have I':Inv X pins σ (upd H p (.lst (xs.set j v))) { s with heap:=s.heap.update p (Obj.mapSeq (·.setIfInBounds j u)) } :=
   I.lstUpd hp ho (zmb its n j u) (r.set rv j) (by rw[qat];exact hz) s.toks
 by_cases h0:0<=k
 · have hk:k.toNat=j:=by rw[seqIndex_of h0 h4]at h1;exact z7s h1
   exact PySem.W.ki_setAt ho h0 (by omega) (by rw[z6v,<-hl];exact h4) (by rw[hk];exact⟨_,I',q⟩)
 · have hk:(k+(its.toArray.size:Int)).toNat=j:=by rw[seqIndex_neg (by omega) h3]at h1;rw[z6v,<-hl];exact z7s h1
   exact PySem.W.ki_setBack ho (by omega) (by rw[z6v,<-hl];exact h3) (by omega) (by rw[hk];exact⟨_,I',q⟩)
theorem zha(lo hi:Option Int)(n:Nat):(sliceBounds lo hi none n).1=((HT.sIx n 0 lo:Nat):Int)/\(sliceBounds lo hi none n).2.1=((HT.sIx n n hi:Nat):Int)/\(sliceBounds lo hi none n).2.2=1:=by
 refine⟨?_,?_,rfl⟩
 · cases lo with
   |none=>simp[sliceBounds,HT.sIx]
   | some i=>
     simp only[sliceBounds,HT.sIx,Option.getD_none,show(1:Int)>0 by decide,z8f];by_cases h:i<0
     · simp only[h,z8f]<;>omega
     · simp only[h,z8d]<;>omega
 · cases hi with
   |none=>simp[sliceBounds,HT.sIx]
   | some i=>
     simp only[sliceBounds,HT.sIx,Option.getD_none,show(1:Int)>0 by decide,z8f];by_cases h:i<0
     · simp only[h,z8f]<;>omega
     · simp only[h,z8d]<;>omega
theorem zfu(its:List Value)(lo hi:Option Int):slicePick its.toArray lo hi none=((its.drop (HT.sIx its.length 0 lo)).take (HT.sIx its.length its.length hi-HT.sIx its.length 0 lo)).toArray:=by obtain⟨h1,h2,h3⟩:=zha lo hi its.toArray.size;unfold slicePick;rw[h1,h2,h3];simp only[sliceRange_one,pick_run,z6v]<;>rfl
def z5v(K:zFr):V->Option Int->Option Int->Hp->VK->Prop:=fun x lo hi H Q=>∃a xs,x=.ref a/\SqL K H a xs/\∀p,H p=none->Q (.ref p) (upd H p (.lst (zuh xs lo hi)))
theorem sl_list:SlR X (z5v X.K):=by intro pins s σ H x v vl vu lo hi sl Q I rx hs pl pu h;obtain⟨a,xs,rfl,hx,q⟩:=h;cases rx;obtain⟨its,r,ht,hz⟩:=I.list hx;have hlen:=r.length;refine⟨"list",_,slot_list_getitem.lookup,ht.isList.typeIs,?_⟩;refine wpAny_getItem_list_slice ht.isList hs pl pu .none (by simp) ?_ (by rw[z6v]<;>omega);rw[zfu,<-hlen];refine⟨.ref s.heap.objs.size,_,I.laid (t':=s.toks) (o:=.lst (zuh xs lo hi)) (fun b ob q=>z6u _ q) (z6l _) ?_,rfl,q _ (I.hok.fresh (z6l _))⟩;exact⟨z67 (zec xs lo hi) hz,_,0,(r.drop (HT.sIx xs.length 0 lo)).take (HT.sIx xs.length xs.length hi-HT.sIx xs.length 0 lo),z7j _ rfl⟩
def zjg:V->Bool
 | .non=>true
 | .bl _=>true
 | .int _=>true
 | .str _=>true
 |_=>false
def eqV:V->V->Bool
 | .non,.non=>true
 | .bl a,.bl b=>a==b
 | .bl a,.int b=>(if a then 1 else 0)==b
 | .int a,.bl b=>a==(if b then 1 else 0)
 | .int a,.int b=>a==b
 | .str a,.str b=>a==b
 |_,_=>false
theorem zub{A:Around}{s:Shared}{y x:V}{u v:Value}(ry:RelV y u)(rx:RelV x v)(fy:zjg y=true)(fx:zjg x=true):SeqAt.EqAt A s u v (eqV y x):=by
 cases y with
 | non=>
   cases ry;cases x with
   |non=>cases rx;exact SeqAt.EqAt.same _
   |bl b=>cases rx;exact SeqAt.EqAt.none_bool b
   |int b=>obtain⟨t,rfl⟩:=rx;exact SeqAt.EqAt.none_int b t
   |str b=>obtain⟨t,rfl⟩:=rx;exact SeqAt.EqAt.none_str b t
   |_=>exact absurd (show false=true from fx) z73
 | bl a=>
   cases ry;cases x with
   |non=>cases rx;exact SeqAt.EqAt.bool_none a
   |bl b=>cases rx;exact SeqAt.EqAt.bool_bool a b
   |int b=>obtain⟨t,rfl⟩:=rx;exact SeqAt.EqAt.bool_int a b t
   |str b=>obtain⟨t,rfl⟩:=rx;exact SeqAt.EqAt.bool_str a b t
   |_=>exact absurd (show false=true from fx) z73
 | int a=>
   obtain⟨t',rfl⟩:=ry;cases x with
   |non=>cases rx;exact SeqAt.EqAt.int_none a t'
   |bl b=>cases rx;exact SeqAt.EqAt.int_bool a t' b
   |int b=>obtain⟨t,rfl⟩:=rx;exact SeqAt.EqAt.int_int a t' b t
   |str b=>obtain⟨t,rfl⟩:=rx;exact SeqAt.EqAt.int_str a t' b t
   |_=>exact absurd (show false=true from fx) z73
 | str a=>
   obtain⟨t',rfl⟩:=ry;cases x with
   |non=>cases rx;exact SeqAt.EqAt.str_none a t'
   |bl b=>cases rx;exact SeqAt.EqAt.str_bool a t' b
   |int b=>obtain⟨t,rfl⟩:=rx;exact SeqAt.EqAt.str_int a t' b t
   |str b=>obtain⟨t,rfl⟩:=rx;exact SeqAt.EqAt.str_str a t' b t
   |_=>exact absurd (show false=true from fx) z73
 |_=>exact absurd (show false=true from fy) z73
theorem call_len_seq:CallR X (.builtin "len") (fun xs H Q=>∃p ys,xs=[.ref p]/\(SqL X.K H p ys\/SqT X.K H p ys)/\Q (.int ys.length) H):=by
 intro pins s σ H xs us Q I r h;obtain⟨p,ys,rfl,hq,q⟩:=h;obtain⟨u,rfl,rx⟩:=zq5 r;cases rx;have hn:=ze9;rcases hq with hq | hq
 · obtain⟨its,r',pl,hz⟩:=I.list hq;have hlen:=r'.length;exact Calls.call_len_list pl.isList (by simp only[z6v]<;>omega) ⟨.int ys.length,H,I.tok _,⟨s.toks+1,by rw[z6v,hlen]⟩,q⟩
 · obtain⟨its,r',pl,hz⟩:=I.tuple hq;have hlen:=r'.length;exact len_tuple pl (by simp only[z6v]<;>omega) ⟨.int ys.length,H,I.tok _,⟨s.toks+1,by rw[z6v,hlen]⟩,q⟩
theorem zh4:CallR X (.builtin "len") (fun xs H Q=>∃z,xs=[.str z]/\z.length<=sizeLine/\Q (.int z.length) H):=by intro pins s σ H xs us Q I r h;obtain⟨z,rfl,hz,q⟩:=h;obtain⟨u,rfl,t,rfl⟩:=zq5 r;have hn:=ze9;exact len_str (by omega) ⟨.int z.length,H,I.tok _,⟨_,rfl⟩,q⟩
theorem CallR.or{f:Value}{r r':List V->Hp->VK->Prop}(h:CallR X f r)(h':CallR X f r'):CallR X f (fun xs H Q=>r xs H Q\/r' xs H Q):=by
 intro pins s σ H xs us Q I rs q;rcases q with q | q
 · exact h pins s σ H xs us Q I rs q
 · exact h' pins s σ H xs us Q I rs q
theorem zh3:CallR X (.type "list") (fun xs H Q=>∃p ys,xs=[.ref p]/\(SqL X.K H p ys\/SqT X.K H p ys)/\∀l,H l=none->Q (.ref l) (upd H l (.lst ys))):=by
 intro pins s σ H xs us Q I r h;obtain⟨p,ys,rfl,hq,q⟩:=h;obtain⟨u,rfl,rx⟩:=zq5 r;cases rx;have fin:∀(its:List Value),Vals ys its->ys.length<=sizeLine->∀(h':Heap) (c':Nat),(∀b o',s.heap.get? b=some o'->h'.get? b=some o') ->
     h'.get? s.heap.objs.size=some { cls:=.type "list",dict:=none,data:=.seq its.toArray c',slots:=#[] }->EP X pins σ Q (.ref s.heap.objs.size) { s with heap:=h' }:=fun its r' hz h' c' kp e=>
   ⟨.ref s.heap.objs.size,_,I.laid (t':=s.toks) kp (z6l _) (show ObjOk X.prog X.w _ h' _ (.lst ys) from⟨hz,its,c',r',e⟩),rfl,q _ (I.hok.fresh (z6l _))⟩
 rcases hq with hq | hq
 · obtain⟨its,r',pl,hz⟩:=I.list hq;have hlen:=r'.length;obtain⟨o,ho,hc,n,hd⟩:=pl.isList;exact call_list_seq p (.inl rfl) ho hc hd (fun h' c' kp e=>fin its r' hz h' c' kp e) (by simp only[z6v]<;>omega)
 · obtain⟨its,r',pl,hz⟩:=I.tuple hq;have hlen:=r'.length;obtain⟨o,ho,hc,n,hd⟩:=pl;exact call_list_seq p (.inr rfl) ho hc hd (fun h' c' kp e=>fin its r' hz h' c' kp e) (by simp only[z6v]<;>omega)
def tyV(K:zFr)(T:String)(x:V)(H:Hp):Prop:=match x with
 | .str _=>T="str"
 | .int _=>T="int"
 | .ref p=>(T="list"/\∃xs,SqL K H p xs)\/(T="tuple"/\∃o,K.lookup p=some o/\o.cls=.type "tuple"/\o.dict=none) \/
     (T="dict"/\((∃kvs,H p=some (.dK kvs))\/∃kvs,H p=some (.dT kvs)))\/(T="set"/\∃S n,H p=some (.set S n))
 |_=>False
theorem zte{pins:zAO}{σ:St}{H:Hp}{s:Shared}{T:String}{x:V}{v:Value}(I:Inv X pins σ H s)(r:RelV x v)(ty:tyV X.K T x H) :
   s.TypeIs v T/\∀a,v=.ref a->∃ob,s.heap.get? a=some ob/\ob.dict=none:=by
 cases x with
 | str z=>
   obtain⟨t,rfl⟩:=r;cases(show T="str" from ty);exact⟨typeIs_str s z t,fun _ e=>nomatch e⟩
 | int i=>
   obtain⟨t,rfl⟩:=r;cases(show T="int" from ty);exact⟨typeIs_int s i t,fun _ e=>nomatch e⟩
 | ref p=>
   cases r;rcases ty with⟨rfl,xs,hq⟩ | ⟨rfl,o,hk,hc,hd⟩ | ⟨rfl,hk⟩ | ⟨rfl,S,n,hk⟩
   · obtain⟨its,_,pl,_⟩:=I.list hq;refine⟨pl.isList.typeIs,fun a e=>?_⟩;cases e;obtain⟨o,n,e,c,hd,_⟩:=pl;exact⟨o,e,hd⟩
   · refine⟨⟨o,I.kIn p o hk,hc⟩,fun a e=>?_⟩;cases e;exact⟨o,I.kIn _ o hk,hd⟩
   · have z:∃o,s.heap.get? p=some o/\o.ExactDict:=by
       rcases hk with⟨kvs,hk⟩ | ⟨kvs,hk⟩
       · obtain⟨_,_,_,_,o,_,_,e,ex,_⟩:=I.hok p _ hk;exact⟨o,e,ex⟩
       · obtain⟨_,_,_,_,o,_,_,e,ex,_⟩:=I.hok p _ hk;exact⟨o,e,ex⟩
     obtain⟨o,e,ex⟩:=z;refine⟨⟨o,e,ex.1⟩,fun a e2=>?_⟩;cases e2;exact⟨o,e,ex.2.1⟩
   · obtain⟨o,_,_,_,e,ex,_⟩:=I.hok p _ hk;refine⟨⟨o,e,ex.1⟩,fun a e2=>?_⟩;cases e2;exact⟨o,e,ex.2.1⟩
 |_=>exact False.elim ty
def z5l(K:zFr)(T:String)(r:V->List V->Hp->VK->Prop)(to:TE):TE:=fun σ H Q=>to σ H fun x H1=>tyV K T x H1/\r x [] H1 Q
def tBM(K:zFr)(T:String)(r:V->List V->Hp->VK->Prop)(to:TE)(t:TA):TE:=fun σ H Q=>to σ H fun x H1=>tyV K T x H1/\t σ H1 fun xs H2=>r x xs H2 Q
variable {o e:Expr}{es:List Expr}{to:TE}{t:TA}{name:Str}{apos cpos:Pos}{T id:String}{r:V->List V->Hp->VK->Prop}
theorem zy5(pa:PlainAttrs T)(slot:Slot T name id)(hty:typeOf (.builtin id)=pure (.type "method_descriptor"))(hm:MtR X id r)(ho:PE X o to)
   (hbase:attributeBase o name X.env (eval o X.env)=eval o X.env:=by rfl) (hline:(apos.endLine==cpos.line)=true:=by rfl):PE X (.Call (.Attribute o name apos) [] [] cpos) (z5l X.K T r to):=by
 intro pins s σ H Q I h;refine wpAny_Call_method0_late hbase hline (thn (ho pins s σ H _ I h) fun v s1 ⟨x,H1,I1,r1,ty,q1⟩=>?_);obtain⟨h1,h2⟩:=zte I1 r1 ty;exact⟨T,id,pa,slot,hty,h1,h2,Calls.callWith_builtin rfl (PySem.evalArgs_none (hm pins s1 σ H1 x [] v [] Q I1 r1 .nil q1))⟩
theorem zy6(pa:PlainAttrs T)(slot:Slot T name id)(hty:typeOf (.builtin id)=pure (.type "method_descriptor"))(hm:MtR X id r)(ho:PE X o to)(ha:PA X (e::es) t)
   (hbase:attributeBase o name X.env (eval o X.env)=eval o X.env:=by rfl)
   (hfew:((backTo cpos (starEach (e::es) X.env)).all (fun x=>!x.1)&&(backToKw cpos (keywordEach [] X.env)).all (fun x=>x.1.isSome)
     && decide ((e::es).length+([]:List Keyword).length+(if([]:List Keyword).isEmpty then 0 else 1)<30))=true:=by rfl)
   (hline:(apos.endLine==cpos.line)=true:=by rfl) (hs:starEach (e::es) X.env=(false,eval e X.env)::starEach es X.env:=by rfl) (hplain:(backTo cpos (starEach es X.env)).any (·.1)=false:=by rfl) :
   PE X (.Call (.Attribute o name apos) (e::es) [] cpos) (tBM X.K T r to t):=by
 intro pins s σ H Q I h;refine wpAny_Call_method_late hbase hfew hline rfl (thn (ho pins s σ H _ I h) fun v s1 ⟨x,H1,I1,r1,ty,q1⟩=>?_);obtain⟨h1,h2⟩:=zte I1 r1 ty;refine⟨T,id,pa,slot,hty,h1,h2,?_⟩;have hA:=ha cpos pins s1 σ H1 _ I1 q1;rw[hs]at hA ⊢;refine Calls.callWith_builtin (by show(false||(backTo cpos (starEach es X.env)).any (·.1))=false;rw[hplain]<;>rfl) (Calls.evalArgs_plain ?_);exact thn hA fun us s2 ⟨vs,H2,I2,r2,q2⟩=>hm pins s2 σ H2 x vs v us Q I2 r1 r2 q2
/- xs.append(e),list.index on a module's tuple .. are MtR facts of 06m -/
end
def MtM(X:Cx)(id:String)(r:V->List V->Hp->VK->Prop):Prop :=
 ∀(pins:zAO) (s:Shared) (σ:St) (H:Hp) (x:V) (xs:List V) (v:Value) (us:List Value) (Q:VK),Inv X pins σ H s->RelV x v->Vals xs us->r x xs H Q ->
   wpAny (model X.prog X.w) X.A (call (.builtin id) (v::us)) (EP X pins σ Q) X.xe s
theorem Vals.one:∀{x:V}{us:List Value},Vals [x] us->∃u,us=[u]/\RelV x u
 |_,_,.cons r .nil=>⟨_,rfl,r⟩
theorem Vals.zero:∀{us:List Value},Vals [] us->us=[]
 |_,.nil=>rfl
theorem Vals.dropLast{xs:List V}{us:List Value}(h:Vals xs us):Vals xs.dropLast us.dropLast:=by
 induction h with
 |nil=>exact .nil
 | cons r t ih=>
   cases t with
   |nil=>exact .nil
   |cons q t'=>exact .cons r ih
theorem Vals.reverse{xs:List V}{us:List Value}(h:Vals xs us):Vals xs.reverse us.reverse:=by
 induction h with
 |nil=>exact .nil
 |cons r t ih=>rw[qad,qad];exact Vals.append ih (.cons r .nil)
theorem zml{α:Type}(l:List α):l.eraseIdx (l.length-1)=l.dropLast:=by
 induction l with
 |nil=>rfl
 | cons a r ih=>
   cases r with
   |nil=>rfl
   | cons b r=>
     have e:(a::b::r).length-1=((b::r).length-1)+1:=by have h1:(a::b::r).length=r.length+2:=rfl;have h2:(b::r).length=r.length+1:=rfl;omega
     rw[e,List.eraseIdx_cons_succ,ih]
     all_goals rfl
section
variable {X:Cx}{pins:zAO}{σ:St}{H:Hp}{s:Shared}{l b:Addr}{xs ys zs:List V}
theorem Inv.lset{its its':List Value}{n:Nat}{f:Array Value->Array Value}{t':Nat}(I:Inv X pins σ H s)(hH:H l=some (.lst xs))
   (e:s.heap.get? l=some { cls:=.type "list",data:=.seq its.toArray n }) (hf:f its.toArray=its'.toArray) (hv:Vals ys its') (hz:ys.length<=sizeLine) :
   Inv X pins σ (upd H l (.lst ys)) { s with heap:=s.heap.update l (Obj.mapSeq f),toks:=t' }:=by
 have q:=PySem.IsL.update e f;rw[hf]at q;refine I.write (x:=l) (e:=l) (by rw[hH];exact trivial) (.inl rfl) (fun b' u hb hu=>(qay s.heap (Obj.mapSeq f) (z9m hb)).trans hu) ⟨_,q⟩ ?_;exact⟨hz,its',_,hv,q⟩
theorem Inv.lnew{its:List Value}{t':Nat}(I:Inv X pins σ H s)(hv:Vals ys its)(hz:ys.length<=sizeLine) :
   Inv X pins σ (upd H s.heap.objs.size (.lst ys)) { s with heap:=s.heap.push { cls:=.type "list",data:=.seq its.toArray },toks:=t' } :=
 I.laid (fun _ _ q=>z6u _ q) (z6l _) ⟨hz,its,0,hv,z7j _ rfl⟩
theorem Inv.fresh(I:Inv X pins σ H s):H s.heap.objs.size=none:=I.hok.fresh (z6l _)
theorem Inv.lstM(I:Inv X pins σ H s)(hH:H l=some (.lst xs)):xs.length<=sizeLine/\∃(its:List Value) (n:Nat),Vals xs its/\xs.length=its.length/\s.heap.get? l=some { cls:=.type "list",data:=.seq its.toArray n }:=by obtain⟨z,its,n,r,e⟩:=I.hok l _ hH;exact⟨z,its,n,r,r.length,e⟩
end
section
variable {X:Cx}
def zvd:V->List V->Hp->VK->Prop:=fun x vs H Q=>∃l xs y,x=.ref l/\vs=[y]/\H l=some (.lst xs)/\xs.length<sizeLine/\Q .non (upd H l (.lst (xs++[y])))
theorem zo4:MtM X "list.append" zvd:=by intro pins s σ H x vs v us Q I rx rv h;obtain⟨l,xs,y,rfl,rfl,hH,hz,q⟩:=h;cases rx;obtain⟨u,rfl,ru⟩:=rv.one;obtain⟨z,its,n,r,hl,e⟩:=I.lstM hH;refine call_meets F.slot_list_append ⟨_,e,rfl⟩ F.entry_list_append (F.args_list_append_2 _ _) (PySem.list_append l its.toArray n u (by rw[z6v];omega)) ⟨e,?_⟩;refine⟨.non,_,I.lset (its':=its++[u]) hH e (by simp) (r.append (.cons ru .nil)) ?_,rfl,q⟩;rw[z6k,List.length_singleton];omega
def z5w:V->List V->Hp->VK->Prop:=fun x vs H Q=>∃l xs y,x=.ref l/\vs=[]/\H l=some (.lst xs)/\xs[xs.length-1]? = some y/\Q y (upd H l (.lst xs.dropLast))
theorem zzl:MtM X "list.pop" z5w:=by
 intro pins s σ H x vs v us Q I rx rv h;obtain⟨l,xs,y,rfl,rfl,hH,hy,q⟩:=h;cases rx;have hus:=rv.zero;subst hus;obtain⟨z,its,n,r,hl,e⟩:=I.lstM hH;obtain⟨u,hu,ru⟩:=r.get hy;have hy':its.toArray[its.toArray.size-1]? = some u:=by show its.toArray[its.length-1]? = some u;rw[<-z7u,<-hl];exact hu
 refine call_meets F.slot_list_pop ⟨_,e,rfl⟩ F.entry_list_pop (F.args_list_pop_1 _) (MeetsSeq.list_pop_last l its.toArray n u hy' (by rw[z6v];omega)) ⟨e,?_⟩;refine⟨y,_,I.lset (its':=its.dropLast) hH e ?_ r.dropLast ?_,ru,q⟩
 · show its.toArray.eraseIdxIfInBounds (its.toArray.size-1)=its.dropLast.toArray;rw[z6v,List.eraseIdxIfInBounds_toArray,zml]
 · rw[List.length_dropLast];omega
end
end L2
namespace Att
open PySem PySem.W PySem.Calls PyProof.Rows
theorem zd1{P:Params}{h:Heap}:∀(ns:List Int) (vs:List Value),WellAll P h vs (ns.map WData.int)->IntsAre vs ns:=by
 intro ns
 induction ns with
 | nil=>
   intro vs w;rw[List.map_nil]at w;cases w;exact .nil
 | cons n ns ih=>
   intro vs w;rw[z65]at w;cases w with
   | cons a b=>
     cases a;exact .cons _ _ (ih _ b)
theorem zn0{l:OpenLaw}{n:Nat}(hn:l.most=some n){P:Params}{h:Heap}{args:List WData}{vals:List Value}
   (hpre:l.row.toRowW.claim.pre args=true) (hwl:WellAll P h vals args) :
   ∃a vs ns,vals=[Value.ref a]/\args=[WData.list (ns.map WData.int)]/\h.get? a=some { cls:=.type "list",data:=.seq vs.toArray }/\IntsAre vs ns/\ns.length<=n:=by
 have hsh:WShape.hasAll [] args [.list .int]=true:=(pre_splitW hpre).1;have hc:l.pre.holds [] { args:=args }=true:=(pre_splitW hpre).2;obtain⟨d,r,rfl,h1,h2⟩:=hasAllW_cons hsh;obtain rfl:=hasAllW_nil h2;obtain⟨xs,rfl,h3⟩:=hasW_list h1;obtain⟨ns,rfl⟩:=items_int h3;have hlen:ns.length<=n:=by
   unfold OpenLaw.pre at hc;have h4:(WTm.not (.lt (.lit (.int (n:Int))) (.len (.arg 0)))).holds [] { args:=[.list (ns.map .int)] }=true:=by have h4:=(holds_andW hc).1;rw[hn]at h4;exact h4
   have h5:=condW_of h4 (w_not (w_lt w_lit (w_len_list (w_arg rfl))));rw[z8s]at h5;refine Nat.le_of_not_lt fun q=>?_;have q':(n:Int)<((ns.length:Nat):Int):=by omega
   first
     | (rw[z68 q']at h5;exact absurd h5 (by decide))
     | (simp at h5;omega)
 cases hwl with
 | cons w1 w2=>
   cases w2;cases w1 with
   |list ho hall=>exact⟨_,_,ns,rfl,rfl,ho,zd1 ns _ hall,hlen⟩
theorem zoi(l:OpenLaw)(args:List WData):l.row.toRowW.claim.post args (.bool true) args=true :=
 postW_of (r:=l.row.toRowW) (X:=(true==true))
   (show WShape.has [] (.bool true) .bool=true by first | rfl | decide | simp[WShape.has,WShape.arms,WShape.armsAll])
   (show(WTm.eq .res (.lit (.bool true))).value [] { args:=args,res:=some (.bool true),after:=args }=some (.bool (true==true))from w_eq_bool (w_res rfl) w_lit) rfl
theorem attach_call{l:OpenLaw}{n:Nat}{q:Program}{loose:List Str}{XP:(zMg)->Heap->Prop}{YP:World->Heap->Prop}{d:DefRec}
   (hn:l.most=some n) (hdf:d.params.defaults=[])
   (call:∀(w:World) (s₀ s₁:Shared) (mg mb:zMg) (fa:Addr) (o:Obj) (pm cd doc:Value) (a:Addr) (vs:List Value) (ns:List Int),
     Ground q loose [] XP w s₀ mg mb s₁.heap->YP w s₁.heap ->
     s₁.heap.get? fa=some o->o.data=.func (docDef d.name d.params d.body d.scope pm cd doc)->s₁.heap.CodeRec cd d.name->mg d.name=some (.ref fa) ->
     s₁.heap.get? a=some { cls:=.type "list",data:=.seq vs.toArray }->IntsAre vs ns->ns.length<=n->s₁.gens=#[] ->
     codeAny (model l.prog w) callerA (.call (.ref fa) ⟨[.ref a],[]⟩) (fun r s'=>r=.ok (.ret (.bool true))/\OldK s₁.heap s'.heap/\s'.os=s₁.os/\AllBare s'.gens) s₁) :
   WalkO q loose XP YP l.row.toRowW d [] (fun f vs=>PySem.call f vs):=by
 intro w s₀ s₁ mg mb G Y fa o pm cd doc dV kV ho hd hcd hD hmg hg args vals as hpre hlay hrd hwl hlo;obtain rfl:dV=.none:=Dflts.none hD hdf;obtain rfl:kV=.none:=Dflts.noKw hD;obtain⟨a,vs,ns,rfl,rfl,hobj,hints,hlen⟩:=zn0 hn hpre hwl;refine enter_call (qa5 (call w s₀ s₁ mg mb fa o pm cd doc a vs ns G Y ho (fd_plain hd) hcd hmg hobj hints hlen hg) fun r s' hq=>?_);obtain⟨rfl,h2,h3,h4⟩:=hq;exact⟨.inl ⟨.bool true,.bool true,[],rfl,fun _=>rfl,.bool true,zoi l _,fun _=>⟨List.Pairwise.nil,fun _ hm=>(nomatch hm)⟩⟩,h2,h3,h4⟩
section
variable {prog:Program}{w:World}{A:Around}{E:zVP}{s:Shared}{K:Frag}
def z4u(h:Heap)(L d:Addr):zAO:=(List.range h.objs.size).filterMap fun a=>if a=L\/a=d then none else (h.get? a).map fun o=>(a,o)
end
end Att
namespace L2
open PySem PySem.Spec PyProof.Rows
theorem zg8:∀{vs:List Value}{ns:List Int},IntsAre vs ns->Vals (ns.map V.int) vs
 |_,_,.nil=>.nil
 |_,_,.cons n t h=>.cons ⟨t,rfl⟩ (zg8 h)
abbrev KOf{K:zFr}{h:Heap}(_:K.In h):zFr:=K
end L2
/- THE LAST THEOREM (shape;LID,My.* are yours):
  My.Adr: a structure of the addresses that your layer names (classes,functions);My.Txt K t: a structure (Prop) of the equations over K;
  My.txt_mk:{K}{implicit addresses ..} (e1:nsIn K mainGlobals "law"=some (some (.ref f))) (e2:K.lookup f=some ⟨oc,od,.func (fnOf "law" "law" params body scope dV kV doc pm an cdv ct),sl⟩) (e3:codeIn K cdv "law"=true) ..:∃t,My.Txt K t
(the tactic k_is has no namespace: write k_is) -/
namespace L2
open PySem PySem.Spec PyProof.Rows
def zd3(s:Stmt)(j:Nat):Stmt:=match s with
 | .ClassDef _ _ _ body _ _ _ _ _ _ _=>body.getD j (.Pass ⟨0,0,0,0⟩)
 |_=>.Pass ⟨0,0,0,0⟩
def za9(s:Stmt):Arguments:=match s with
 | .FunctionDef _ a _ _ _ _ _ _ _ _=>a
 |_=>{ posonlyargs:=[],args:=[],vararg:=none,kwonlyargs:=[],kw_defaults:=[],kwarg:=none,defaults:=[] }
def j6(s:Stmt):List Stmt:=match s with
 | .FunctionDef _ _ b _ _ _ _ _ _ _=>b
 |_=>[]
def zk(s:Stmt):Scope:=match s with
 | .FunctionDef _ _ _ _ _ _ sc _ _ _=>sc
 |_=>{ kind:=.function,names:=[],isGenerator:=false,isCoroutine:=false }
abbrev CX0:CXT:=fun _ _ _ _ _ _=>False
abbrev E0:XK:=fun _ _ _=>False
theorem ziz{X:Cx}:zep CX0 X E0:=fun _ _ _ _ _ _ _ h=>h.elim
theorem z1v{A B:Prop}(h:B):if false=true then A else B:=by rw[z7a z73];exact h
theorem z1u{A B:Prop}(h:A):if true=true then A else B:=by rw[z64 rfl];exact h
section
variable {κ:Type} [DecidableEq κ]
def zig(kvs:List (κ×V))(k:κ):Option V:=(kvs.find? fun kv=>decide (kv.1=k)).map (·.2)
def zl3(kvs:List (κ×V))(k:κ)(v:V):List (κ×V) :=
 if(kvs.any fun kv=>decide (kv.1=k))=true then kvs.map (fun kv=>if kv.1=k then (kv.1,v)else kv)else kvs++[(k,v)]
theorem zb5{p:κ×V}{r:List (κ×V)}{k:κ}(e:p.1=k):zig (p::r) k=some p.2:=by simp[zig,List.find?_cons,e]
theorem zb6{p:κ×V}{r:List (κ×V)}{k:κ}(e:¬ p.1=k):zig (p::r) k=zig r k:=by simp[zig,List.find?_cons,e]
theorem zfq(k:κ):∀kvs:List (κ×V),(kvs.any fun kv=>decide (kv.1=k))=(zig kvs k).isSome
 | []=>rfl
 | p::r=>by
   rw[List.any_cons];by_cases e:p.1=k
   · simp only[zb5 e,z68 e,Bool.true_or,Option.isSome_some]
   · rw[zb6 e,z60 e,Bool.false_or];exact zfq k r
theorem zdu(kvs:List (κ×V))(k:κ)(v:V):(zl3 kvs k v).length<=kvs.length+1:=by
 unfold zl3;split
 · rw[z8s];omega
 · rw[z6k,List.length_cons,List.length_nil];omega
theorem zrq{kvs:List (κ×V)}{k:κ}(v:V)(h:zig kvs k=none):zl3 kvs k v=kvs++[(k,v)]:=by unfold zl3;rw[zfq,h];exact z7a (by decide)
theorem RelO.isSome_eq{o:Option V}{u:Option Value}(r:RelO o u):o.isSome=u.isSome:=by
 cases o with
 | none=>cases u with
   |none=>rfl
   |some _=>exact(show False from r).elim
 | some _=>cases u with
   |none=>exact(show False from r).elim
   |some _=>rfl
theorem KV.val{kvs:List (κ×V)}{vs:List (κ×Value)}(r:KV kvs vs)(k:κ):RelO (zig kvs k) (valueAt vs k):=by
 unfold KV at r
 induction r with
 |nil=>exact True.intro
 | @cons p q ps qs h t ih=>
   obtain⟨h1,h2⟩:=h;by_cases e:p.1=k
   · have e':q.1=k:=h1.symm.trans e;have b:valueAt (q::qs) k=some q.2:=by simp[valueAt,List.find?_cons,e']
     rw[zb5 e,b];exact h2
   · have e':¬ q.1=k:=fun z=>e (h1.trans z);have b:valueAt (q::qs) k=valueAt qs k:=by simp[valueAt,List.find?_cons,e']
     rw[zb6 e,b];exact ih
theorem KV.any{kvs:List (κ×V)}{vs:List (κ×Value)}(r:KV kvs vs)(k:κ):(kvs.any fun kv=>decide (kv.1=k))=vs.any fun kv=>decide (kv.1=k):=by
 unfold KV at r
 induction r with
 |nil=>rfl
 |cons h t ih=>rw[List.any_cons,List.any_cons,ih,h.1]
theorem KV.repl{kvs:List (κ×V)}{vs:List (κ×Value)}(r:KV kvs vs)(k:κ){y:V}{u:Value}(ry:RelV y u) :
   KV (kvs.map fun kv=>if kv.1=k then (kv.1,y)else kv) (vs.map fun kv=>if kv.1=k then (kv.1,u)else kv):=by
 unfold KV at r ⊢
 induction r with
 |nil=>exact .nil
 | @cons p q ps qs h t ih=>
   rw[z65,z65];refine .cons ?_ ih;obtain⟨h1,h2⟩:=h;by_cases e:p.1=k
   · rw[z64 e,z64 (h1.symm.trans e)];exact⟨h1,ry⟩
   · rw[z7a e,z7a (fun z=>e (h1.trans z))];exact⟨h1,h2⟩
theorem KV.put{kvs:List (κ×V)}{vs:List (κ×Value)}(r:KV kvs vs)(k:κ){y:V}{u:Value}(ry:RelV y u):KV (zl3 kvs k y) (stored vs k u):=by
 unfold zl3 stored;rw[r.any k];by_cases e:(vs.any fun kv=>decide (kv.1=k))=true
 · rw[z64 e,z64 e];exact r.repl k ry
 · rw[z7a e,z7a e];exact Paired.snoc r ⟨rfl,ry⟩
theorem KV.length{kvs:List (κ×V)}{vs:List (κ×Value)}(r:KV kvs vs):kvs.length=vs.length:=Paired.length r
end
theorem zr8{P:Program}{w:World}{k:Key}{u:Value}(r:RelV (kV k) u):(x9 P w).is k u=true:=by
 cases k with
 |inl i=>obtain⟨t,e⟩:=(show ∃t,u=Value.int i t from r);subst e;exact zi3 P w i t
 |inr x=>obtain⟨t,e⟩:=(show ∃t,u=Value.str x t from r);subst e;exact zi2 P w x t
theorem zho{P:Program}{w:World}:∀{ks:List Key}{us:List Value},Vals (ks.map kV) us->ItemsAre (x9 P w) ks us
 | [],_,r=>by rw[List.map_nil]at r;cases r;exact .nil
 | k::ks,_,r=>by
   rw[z65]at r;cases r with
   |cons h t=>exact .cons (zr8 h) (zho t)
abbrev KT(H:Hp):List (List Key×V)->List (List Key×Addr×Value)->Prop:=Paired fun p q=>p.1=q.1/\H q.2.1=some (.tup (p.1.map kV))/\RelV p.2 q.2.2
theorem KT.val{H:Hp}{kvs:List (List Key×V)}{xs:List (List Key×Addr×Value)}(r:KT H kvs xs)(k:List Key):RelO (zig kvs k) ((atKey xs k).map (·.2)):=by
 induction r with
 |nil=>exact True.intro
 | @cons p q ps qs h t ih=>
   obtain⟨h1,_,h2⟩:=h;by_cases e:p.1=k
   · have e':q.1=k:=h1.symm.trans e;have b:atKey (q::qs) k=some q.2:=by simp[atKey,List.find?_cons,e']
     rw[zb5 e,b];exact h2
   · have e':¬ q.1=k:=fun z=>e (h1.trans z);have b:atKey (q::qs) k=atKey qs k:=by simp[atKey,List.find?_cons,e']
     rw[zb6 e,b];exact ih
theorem KT.repl{H:Hp}{kvs:List (List Key×V)}{xs:List (List Key×Addr×Value)}(r:KT H kvs xs)(k:List Key){y:V}{u:Value}(ry:RelV y u) :
   KT H (kvs.map fun kv=>if kv.1=k then (kv.1,y)else kv) (xs.map (putAt k u)):=by
 induction r with
 |nil=>exact .nil
 | @cons p q ps qs h t ih=>
   rw[z65,z65];refine .cons ?_ ih;obtain⟨h1,h2,h3⟩:=h;unfold putAt;by_cases e:p.1=k
   · rw[z64 e,z64 (h1.symm.trans e)];exact⟨h1,h2,ry⟩
   · rw[z7a e,z7a (fun z=>e (h1.trans z))];exact⟨h1,h2,h3⟩
theorem KT.put{H:Hp}{kvs:List (List Key×V)}{xs:List (List Key×Addr×Value)}(r:KT H kvs xs)(k:List Key){b:Addr}{y:V}{u:Value}(hb:H b=some (.tup (k.map kV)))(ry:RelV y u) :
   KT H (zl3 kvs k y) (storedH xs k b u):=by
 have e:(kvs.any fun kv=>decide (kv.1=k))=(atKey xs k).isSome:=by rw[zfq,(r.val k).isSome_eq,Option.isSome_map]
 unfold zl3 storedH;rw[e];by_cases q:(atKey xs k).isSome=true
 · rw[z64 q,z64 q];exact r.repl k ry
 · rw[z7a q,z7a q];exact Paired.snoc r ⟨rfl,hb,ry⟩
theorem KT.keeps{H H':Hp}{kvs:List (List Key×V)}{xs:List (List Key×Addr×Value)}(r:KT H kvs xs)(ht:∀b ys,H b=some (.tup ys)->H' b=some (.tup ys)):KT H' kvs xs :=
 Paired.mapP r fun _ _ z=>⟨z.1,ht _ _ z.2.1,z.2.2⟩
section
variable {P:Program}{w:World}{H:Hp}{h:Heap}{a:Addr}
theorem zyh{u:HO}(ok:HOk P w H h)(e:Rd H a u):ObjOk P w H h a u:=e.ok ok
theorem zsr{kvs:List (Key×V)}(ok:HOk P w H h)(e:Rd H a (.dK kvs)):kvs.length<=sizeLine/\(a==sysModules)=false/\∃vs,KV kvs vs/\h.DictOf (x9 P w) a vs :=
 show ObjOk P w H h a (.dK kvs)from zyh ok e
theorem z3u{kvs:List (Key×V)}(ok:HOk P w H h)(e:H a=some (.dK kvs)):kvs.length<=sizeLine/\(a==sysModules)=false/\∃vs,KV kvs vs/\h.DictOf (x9 P w) a vs:=zsr ok (.inl e)
theorem zk0{ks:List Key}(ok:HOk P w H h)(e:H a=some (.tup (ks.map kV))):(tupleKind (x9 P w)).is h ks a:=by
 obtain⟨_,its,r,o,h1,h2,n,h3⟩:=(show ObjOk P w H h a (.tup (ks.map kV))from ok a _ e)
 exact⟨o,its.toArray,n,h1,h2,h3,by simpa using zho r⟩
theorem zsq{kvs:List (List Key×V)}(ok:HOk P w H h)(e:Rd H a (.dT kvs)):kvs.length<=sizeLine/\(a==sysModules)=false /\
   ∃xs,KT H kvs xs/\h.DictOfH (tupleKind (x9 P w)) a xs:=by
 obtain⟨z,y,xs,r,o,es,ep,h1,h2,h3,h4,h5⟩:=(show ObjOk P w H h a (.dT kvs)from zyh ok e)
 refine⟨z,y,xs,r,o,es,ep,h1,h2,h3,h4,fun x hx=>?_,h5⟩;have all:∀{l:List (List Key×V)}{m:List (List Key×Addr×Value)},KT H l m->∀x∈m,(tupleKind (x9 P w)).is h x.1 x.2.1:=by
   intro l m q
   induction q with
   |nil=>intro x hx;exact nomatch hx
   | @cons p q ps qs hq t ih=>
     intro x hx;rcases z6n.mp hx with e | hx
     · subst e;exact zk0 ok (by rw[<-hq.1];exact hq.2.1)
     · exact ih x hx
 exact all r x hx
theorem z3t{kvs:List (List Key×V)}(ok:HOk P w H h)(e:H a=some (.dT kvs)):kvs.length<=sizeLine/\(a==sysModules)=false /\
   ∃xs,KT H kvs xs/\h.DictOfH (tupleKind (x9 P w)) a xs:=zsq ok (.inl e)
end
def DGet(H:Hp)(a:Addr)(y:V)(r:Option V):Prop :=
 (∃kvs k,Rd H a (.dK kvs)/\y=kV k/\r=zig kvs k)\/∃kvs k b,Rd H a (.dT kvs)/\y=.ref b/\H b=some (.tup (k.map kV))/\r=zig kvs k
def DPut(H:Hp)(a:Addr)(y v:V)(H':Hp):Prop :=
 (∃kvs k,H a=some (.dK kvs)/\y=kV k/\kvs.length<sizeLine/\H'=upd H a (.dK (zl3 kvs k v))) \/
 ∃kvs k b,H a=some (.dT kvs)/\y=.ref b/\H b=some (.tup (k.map kV))/\kvs.length<sizeLine/\H'=upd H a (.dT (zl3 kvs k v))
theorem DGet.k{H:Hp}{a:Addr}{kvs:List (Key×V)}{k:Key}(e:H a=some (.dK kvs)):DGet H a (kV k) (zig kvs k):=.inl ⟨kvs,k,.inl e,rfl,rfl⟩
theorem DPut.k{H:Hp}{a:Addr}{kvs:List (Key×V)}{k:Key}{v:V}(e:H a=some (.dK kvs))(hl:kvs.length<sizeLine):DPut H a (kV k) v (upd H a (.dK (zl3 kvs k v))):=.inl ⟨kvs,k,e,rfl,hl,rfl⟩
section
variable {X:Cx}{pins:zAO}{σ:St}{H:Hp}{s:Shared}{a:Addr}{y v:V}{u r:Value}{o:Option V}{A:Around}{E:zVP}
theorem Inv.big(I:Inv X pins σ H s):sysModules<s.heap.objs.size:=by have h:mainGlobals<s.heap.objs.size:=(I.mod.glob.keeps I.bk).lt;exact Nat.lt_trans (by decide) h
theorem zqg{Q:zVP}(hu:A.units+1<cLine)(I:Inv X pins σ H s)(g:DGet H a y (some v))(ry:RelV y u)(h:∀w' s',Inv X pins σ H s'->RelV v w'->Q w' s') :
   wpAny (model X.prog X.w) A (getItem (.ref a) u) Q E s:=by
 rcases g with⟨kvs,k,e,ey,l⟩ | ⟨kvs,k,b,e,ey,eb,l⟩
 · subst ey;obtain⟨z,hd,vs,rel,dd⟩:=zsr I.hok e;obtain⟨w',hw,rw'⟩:=RelO.some_of (v:=v) (o:=valueAt vs k) (by rw[l];exact rel.val k);exact wpAny_getItem_of (zr8 ry) dd.mapOf hw (h w' _ (I.tok _) rw')
 · subst ey;cases(show u=Value.ref b from ry);obtain⟨z,hd,xs,rel,dd⟩:=zsq I.hok e;obtain⟨w',hw,rw'⟩:=RelO.some_of (v:=v) (o:=(atKey xs k).map (·.2)) (by rw[l];exact rel.val k);obtain⟨p,hp,hp2⟩:=Option.map_eq_some_iff.mp hw;refine wpAny_getItem_heap (qbm hu) (zk0 I.hok eb) dd hp ?_;rw[hp2];exact h w' _ (I.tok _) rw'
theorem zw0{Q:zVP}(hu:A.units+1<cLine)(I:Inv X pins σ H s)(g:DGet H a y o)(ry:RelV y u)(h:∀s',Inv X pins σ H s'->Q (.bool (!o.isSome)) s') :
   wpAny (model X.prog X.w) A (compareOp .NotIn u (.ref a)) Q E s:=by
 rcases g with⟨kvs,k,e,ey,l⟩ | ⟨kvs,k,b,e,ey,eb,l⟩
 · subst ey;obtain⟨z,hd,vs,rel,dd⟩:=zsr I.hok e;refine wpAny_notIn_of (zr8 ry) hd dd.mapOf ?_;rw[<-(rel.val k).isSome_eq,<-l];exact h _ (I.tok _)
 · subst ey;cases(show u=Value.ref b from ry);obtain⟨z,hd,xs,rel,dd⟩:=zsq I.hok e;refine wpAny_notIn_heap (qbm hu) (zk0 I.hok eb) hd dd ?_;have q:=(rel.val k).isSome_eq;rw[Option.isSome_map]at q;rw[<-q,<-l];exact h _ (I.tok _)
theorem zqe{h':Heap}{t':Nat}{ob:HO}(I:Inv X pins σ H s)(mu:Mut (H a))(hs:Heap.SameBut a s.heap h')(he:∃q,h'.get? a=some q)(new:ObjOk X.prog X.w (upd H a ob) h' a ob) :
   Inv X pins σ (upd H a ob) { s with heap:=h',toks:=t' } :=
 I.write (x:=a) (e:=a) mu (.inl rfl) (fun b q hb z=>(hs.2 b hb).trans z) he new
theorem z05{P:Program}{w:World}{H':Hp}{h':Heap}{kvs:List (Key×V)}{vs:List (Key×Value)}(z:kvs.length<=sizeLine)(hd:(a==sysModules)=false)(rel:KV kvs vs)(dd:h'.DictOf (x9 P w) a vs) :
   ObjOk P w H' h' a (.dK kvs):=⟨z,hd,vs,rel,dd⟩
theorem zqf{H':Hp}{Q:Unit->Shared->Prop}(hu:A.units+1<cLine)(I:Inv X pins σ H s)(g:DPut H a y v H')(ry:RelV y u)(rv:RelV v r)(h:∀s',Inv X pins σ H' s'->Q () s') :
   wpAny (model X.prog X.w) A (setItem (.ref a) u r) Q E s:=by
 rcases g with⟨kvs,k,e,ey,l,eH⟩ | ⟨kvs,k,b,e,ey,eb,l,eH⟩
 · subst ey eH;obtain⟨z,hd,vs,rel,dd⟩:=z3u I.hok e;have hz:vs.length<=sizeLine:=by rw[<-rel.length];exact z
   have hl:(zl3 kvs k v).length<=sizeLine:=by have:=zdu kvs k v;omega
   refine wpAny_setItem_pairs (hsz:=hz) (zr8 ry) dd fun h' dd' hs=>h _ ?_;have he:∃q,h'.get? a=some q:=let⟨q,_,_,hq,_⟩:=dd';⟨q,hq⟩;exact zqe I (by rw[e];exact True.intro) hs he (z05 hl hd (rel.put k rv) dd')
 · subst ey eH;cases(show u=Value.ref b from ry);obtain⟨z,hd,xs,rel,dd⟩:=z3t I.hok e;have hz:xs.length<=sizeLine:=by rw[<-Paired.length rel];exact z
   have hl:(zl3 kvs k v).length<=sizeLine:=by have:=zdu kvs k v;omega
   refine wpAny_setItem_heap (hsz:=hz) (qbm hu) (zk0 I.hok eb) dd fun h' dd' hs=>h _ ?_;obtain⟨q,es,ep,hq,h2,h3,h4,_,h5⟩:=dd';refine zqe I (by rw[e];exact True.intro) hs ⟨q,hq⟩ ⟨hl,hd,_,(rel.put k eb rv).keeps fun c ys ec=>?_,q,es,ep,hq,h2,h3,h4,h5⟩;rw[qd (ne_of ec e (fun z=>nomatch z))];exact ec
end
def z35(i:Expr):Prop:=∀ov iv,subscripted i false ov iv=operate [ov,iv] (getItem ov iv)
theorem zu1{prog:Program}{w:World}{A:Around}{E:zVP}{s:Shared}{env:Env}{value slice:Expr}{pos:Pos}{T id:String}{Q:zVP}
   (hl:typeLookup (.type T) "__getitem__"=pure (some (.builtin id))) (hs:z35 slice)
   (h:wpAny (model prog w) A (eval value env) (fun o s₁=>wpAny (model prog w) A (eval slice env) (fun i s₂=>s₂.TypeIs o T/\wpAny (model prog w) A (getItem o i) Q E s₂) E s₁) E s) :
   wpAny (model prog w) A (eval (.Subscript value slice pos) env) Q E s:=by
 refine Subscript_ (z8o h (fun o s₁ h₁=>z8o h₁ (fun i s₂ h₂=>?_) fun _ _ x=>x) fun _ _ x=>x);obtain⟨hT,h₂⟩:=h₂;unfold subscriptTail;refine z6m ?_;rw[getitemInPython_of_ne hT.not_modules];refine z6m (wpAny_specialOf hT hl ?_);have fin:wpAny (model prog w) A (subscripted slice false o i) (fun r s₃=>wpAny (model prog w) A (letTemporaryGo value o r >>= fun _=>pure r) Q E s₃) E s₂:=by rw[hs o i];exact wpAny_operating (z8o h₂ (fun r s₃ h₃=>z6m (wpAny_letTemporaryGo (z7g h₃))) fun _ _ x=>x)
 first
   |exact z7g (z6m fin)
   |exact z6m (z7g (z6m fin))
   |exact z6m fin
theorem zjm{X:Cx}{pins:zAO}{σ:St}{H:Hp}{s:Shared}{a:Addr}{y:V}{o:Option V}(I:Inv X pins σ H s)(g:DGet H a y o):s.TypeIs (.ref a) "dict":=by
 rcases g with⟨kvs,k,e,_,_⟩ | ⟨kvs,k,b,e,_,_,_⟩
 · obtain⟨_,_,vs,_,dd⟩:=zsr I.hok e;exact dd.typeIs
 · obtain⟨_,_,xs,_,dd⟩:=zsq I.hok e;exact dd.typeIs
def z2h(td ty:TE):TE:=fun σ H Q=>td σ H fun x H1=>ty σ H1 fun y H2=>∃a v,x=.ref a/\DGet H2 a y (some v)/\Q v H2
def z2n(td ty tv:TE):TS:=fun D σ H=>tv σ H fun v H1=>td σ H1 fun x H2=>ty σ H2 fun y H3=>∃a H4,x=.ref a/\DPut H3 a y v H4/\D.nx σ H4
section
variable {X:Cx}{o i e value:Expr}{pos pos' tpos:Pos}{td ty tv:TE}
theorem zvp(hu:X.A.units+1<cLine)(ho:PE X o td)(hi:PE X i ty)(hs:z35 i):PE X (.Subscript o i pos) (z2h td ty):=by intro pins s σ H Q I h;refine zu1 PySem.F.slot_dict_getitem.lookup hs (thn (ho pins s σ H _ I h) fun u s1 ⟨x,H1,I1,rx,q1⟩=>thn (hi pins s1 σ H1 _ I1 q1) fun iv s2 ⟨y,H2,I2,ry,a,v,ex,g,q2⟩=>?_);subst ex;obtain rfl:u=Value.ref a:=rx;exact⟨zjm I2 g,zqg hu I2 g ry fun w' s3 I3 rw'=>⟨v,H2,I3,rw',q2⟩⟩
theorem zvj(hu:X.A.units+1<cLine)(ho:PE X o td)(hi:PE X i ty)(hv:PE X value tv)(hs:swapsWith value (some (.Subscript o i pos')) pos.line X.env=pure false) :
   PS X (.Assign [.Subscript o i pos'] value pos) (z2n td ty tv):=by
 intro pins s σ H D I h;refine wpAny_Assign_Subscript (thn (hv pins s σ H _ I h) fun r s1 ⟨v,H1,I1,rv,q1⟩=>thn (ho pins s1 σ H1 _ I1 q1) fun u s2 ⟨x,H2,I2,rx,q2⟩=>thn (hi pins s2 σ H2 _ I2 q2) fun iv s3 ⟨y,H3,I3,ry,a,H4,ex,g,q3⟩=>?_) hs;subst ex;obtain rfl:u=Value.ref a:=rx;exact zqf hu I3 g ry rv fun s4 I4=>⟨σ,H4,I4,q3⟩
end
theorem zss{P:Program}{w:World}{H:Hp}(h:Heap)(hb:sysModules<h.objs.size):ObjOk P w H (h.push { cls:=.type "dict",data:=.dict #[] }) h.objs.size (.dK []) :=
 ⟨z7k _,z9w.mpr (z9m (z7b hb)),[],.nil,Heap.DictOf.new h⟩
def zxy:TE:=fun _ H Q=>∀p,H p=none->Q (.ref p) (upd H p (.dK []))
section
variable {X:Cx}{pos:Pos}
theorem zry:PE X (.Dict [] [] pos) zxy:=fun pins s σ H Q I h=>
 wpAny_Dict_empty ⟨.ref s.heap.objs.size,_,I.laid (a:=s.heap.objs.size) (o:=.dK []) (t':=s.toks) (fun _ _ q=>z6u _ q) (z6l _) (zss s.heap I.big),rfl,h _ (I.hok.fresh (z6l _))⟩
end
end L2
namespace F
open PySem L2
def zzk:Expr->Bool
 | .Starred ..=>false
 |_=>true
theorem qb{e:Expr}{es:List Expr}{env:Env}(h:zzk e=true):starEach (e::es) env=(false,eval e env)::starEach es env:=by cases e<;>first | rfl | cases h
theorem jh{pos:Pos}{env:Env}:∀{es:List Expr},es.all zzk=true->(backTo pos (starEach es env)).any (·.1)=false
 | [],_=>rfl
 | e::es,h=>by rw[List.all_cons,z8e]at h;rw[qb h.1];show(false||(backTo pos (starEach es env)).any (·.1))=false;rw[jh h.2];rfl
structure LT where
 params:Arguments
 body:Expr
 scope:Scope
 qual:Str
 caps:List Str:=[]
 cl:zLA:=[]
inductive D where
 |non | bl (b:Bool) | int (i:Int) | str (x:Str) | fn (x:Str) | ty (n:String)
 |tup (ds:List D) | lst (ds:List D) | obj (i:Nat) | lam (t:LT) | clo (t:LT) (vs:List D)
inductive MO where
 |lst (ds:List D) | ins (c:Str) (fs:List (Str×D)) | dct (kvs:List (Int×D)) | exc (c:Str) | tab (x q:Str)
abbrev Sto:=List MO
abbrev Ev:=List (Option D)
abbrev E:=Ev->Sto->Option (D×Sto)
abbrev B:=Ev->Sto->Option (Bool×Sto)
abbrev As:=Ev->Sto->Option (List D×Sto)
abbrev G:=List D->Sto->Option (D×Sto)
inductive Out where
 |nx (e:Ev) | rt (d:D) | bk (e:Ev) | ct (e:Ev)
abbrev C:=Ev->Sto->Option (Out×Sto)
def TupAt(K:zFr)(ρ:List Addr)(H:Hp)(p:Addr)(vs:List V):Prop :=
 (p∉ρ/\Rd H p (.tup vs))\/∃(o:Obj) (its:Array Value) (n:Nat),K.lookup p=some o/\o.cls=.type "tuple"/\o.data=.seq its n/\its.size<=sizeLine/\Vals vs its.toList
def LstAt(K:zFr)(ρ:List Addr)(H:Hp)(p:Addr)(vs:List V):Prop :=
 (p∉ρ/\Rd H p (.lst vs))\/∃(o:Obj) (its:Array Value) (n:Nat),K.lookup p=some o/\o.cls=.type "list"/\o.dict=none/\o.data=.seq its n/\its.size<=sizeLine/\Vals vs its.toList
theorem TupAt.sq{K ρ H p vs}(h:TupAt K ρ H p vs):SqT K H p vs:=by
 rcases h with⟨_,h⟩ | h
 · exact .inl h
 · exact .inr h
theorem LstAt.sq{K ρ H p vs}(h:LstAt K ρ H p vs):SqL K H p vs:=by
 rcases h with⟨_,h⟩ | h
 · exact .inl h
 · exact .inr h
def zad(c:Addr)(q:Str):Heap->Prop:=fun h=>h.CodeRec (.ref c) q
def zt2(t:LT)(a c:Addr)(pm ct:Value):Heap->Prop:=fun h=>h.get? a=some (PySem.W.kla_obj "<lambda>" t.qual t.params t.body t.scope t.cl pm c ct)
def LamAt(ρ:List Addr)(H:Hp)(t:LT)(a:Addr):Prop:=a∉ρ/\∃c pm ct,c∉ρ/\H a=some (.ext (zt2 t a c pm ct))/\H c=some (.ext (zad c t.qual))
def zms(t:LT)(cl:zLA)(a c:Addr)(pm ct:Value):Heap->Prop:=fun h=>h.get? a=some (PySem.W.kla_obj "<lambda>" t.qual t.params t.body t.scope cl pm c ct)
def Cells(ρ:List Addr)(H:Hp):List Str->List V->zLA->Prop
 | [],[],[]=>True
 |x::xs,u::us,p::cl=>p.1=x/\p.2∉ρ/\(∃(o:Obj) (w:Value),H p.2=some (.frz o (.own 0))/\o.data=.cell (some w)/\RelV u w)/\Cells ρ H xs us cl
 |_,_,_=>False
def CloAt(ρ:List Addr)(H:Hp)(t:LT)(us:List V)(a:Addr):Prop:=a∉ρ/\∃c pm ct cl,c∉ρ/\H a=some (.ext (zms t cl a c pm ct))/\H c=some (.ext (zad c t.qual))/\(cl.map (·.2)).Nodup/\Cells ρ H t.caps us cl
section
variable (K:zFr) (mg:zMg)
mutual
def Rep(ρ:List Addr)(H:Hp):D->V->Prop
 | .non,v=>v=.non
 | .bl b,v=>v=.bl b
 | .int i,v=>v=.int i
 | .str x,v=>v=.str x
 | .fn x,v=>∃a,v=.ref a/\mg x=some (.ref a)
 | .ty n,v=>v=.ty n
 | .tup ds,v=>∃p vs,v=.ref p/\TupAt K ρ H p vs/\RepL ρ H ds vs
 | .lst ds,v=>∃p vs,v=.ref p/\LstAt K ρ H p vs/\RepL ρ H ds vs
 | .obj i,v=>∃a,v=.ref a/\ρ[i]? = some a
 | .lam t,v=>∃a,v=.ref a/\LamAt ρ H t a
 | .clo t vs,v=>∃a us,v=.ref a/\CloAt ρ H t us a/\RepL ρ H vs us
def RepL(ρ:List Addr)(H:Hp):List D->List V->Prop
 | [],vs=>vs=[]
 |d::ds,vs=>∃v r,vs=v::r/\Rep ρ H d v/\RepL ρ H ds r
end
end
structure Ext (ρ:List Addr) (H:Hp) (ρ':List Addr) (H':Hp):Prop where
 pre:∀(i:Nat) (a:Addr),ρ[i]? = some a->ρ'[i]? = some a
 keep:∀b o,H b=some o->b∉ρ->H' b=some o
 new:∀b,b∈ρ'->b∉ρ->H b=none
theorem Ext.refl(ρ:List Addr)(H:Hp):Ext ρ H ρ H:=⟨fun _ _ h=>h,fun _ _ h _=>h,fun _ h n=>absurd h n⟩
theorem Ext.out{ρ ρ' H H'}(e:Ext ρ H ρ' H'){b:Addr}{o:HO}(h:H b=some o)(n:b∉ρ):b∉ρ':=fun z=>by have:=e.new b z n;rw[h]at this;cases this
theorem Ext.trans {ρ ρ' ρ'' H H' H''} (a:Ext ρ H ρ' H') (b:Ext ρ' H' ρ'' H''):Ext ρ H ρ'' H'' where
 pre:=fun i x h=>b.pre i x (a.pre i x h)
 keep:=fun c o h n=>b.keep c o (a.keep c o h n) (a.out h n)
 new:=fun c h n=>by
   by_cases z:c∈ρ'
   · exact a.new c z n
   · cases q:H c with
     |none=>rfl
     | some o=>
       have:=a.keep c o q n;rw[b.new c h z]at this;cases this
section
variable {K:zFr}{mg:zMg}{ρ ρ':List Addr}{H H':Hp}
theorem TupAt.mono{p vs}(h:TupAt K ρ H p vs)(e:Ext ρ H ρ' H'):TupAt K ρ' H' p vs:=by
 rcases h with⟨n,h | ⟨o,h⟩⟩ | h
 · exact .inl ⟨e.out h n,.inl (e.keep _ _ h n)⟩
 · exact .inl ⟨e.out h n,.inr ⟨o,e.keep _ _ h n⟩⟩
 · exact .inr h
theorem LstAt.mono{p vs}(h:LstAt K ρ H p vs)(e:Ext ρ H ρ' H'):LstAt K ρ' H' p vs:=by
 rcases h with⟨n,h | ⟨o,h⟩⟩ | h
 · exact .inl ⟨e.out h n,.inl (e.keep _ _ h n)⟩
 · exact .inl ⟨e.out h n,.inr ⟨o,e.keep _ _ h n⟩⟩
 · exact .inr h
theorem LamAt.mono{t a}(h:LamAt ρ H t a)(e:Ext ρ H ρ' H'):LamAt ρ' H' t a:=by obtain⟨n,c,pm,ct,nc,h1,h2⟩:=h;exact⟨e.out h1 n,c,pm,ct,e.out h2 nc,e.keep _ _ h1 n,e.keep _ _ h2 nc⟩
theorem Cells.mono(e:Ext ρ H ρ' H'):∀{xs:List Str}{us:List V}{cl:zLA},Cells ρ H xs us cl->Cells ρ' H' xs us cl
 | [],[],[],_=>trivial
 | x::xs,u::us,p::cl,h=>by obtain⟨h1,h2,⟨o,w,h3,h4⟩,h5⟩:=h;exact⟨h1,e.out h3 h2,⟨o,w,e.keep _ _ h3 h2,h4⟩,Cells.mono e h5⟩
 | [],[],_::_,h=>h.elim
 | [],_::_,_,h=>h.elim
 |_::_,[],_,h=>h.elim
 |_::_,_::_,[],h=>h.elim
theorem CloAt.mono{t us a}(h:CloAt ρ H t us a)(e:Ext ρ H ρ' H'):CloAt ρ' H' t us a:=by obtain⟨n,c,pm,ct,cl,nc,h1,h2,h3,h4⟩:=h;exact⟨e.out h1 n,c,pm,ct,cl,e.out h2 nc,e.keep _ _ h1 n,e.keep _ _ h2 nc,h3,h4.mono e⟩
mutual
theorem Rep.mono(e:Ext ρ H ρ' H'):∀{d:D}{v:V},Rep K mg ρ H d v->Rep K mg ρ' H' d v
 | .non,_,h=>h
 | .bl _,_,h=>h
 | .int _,_,h=>h
 | .str _,_,h=>h
 | .fn _,_,h=>h
 | .ty _,_,h=>h
 | .tup ds,_,h=>by unfold Rep at h ⊢;obtain⟨p,vs,e1,t,r⟩:=h;exact⟨p,vs,e1,t.mono e,RepL.mono e r⟩
 | .lst ds,_,h=>by unfold Rep at h ⊢;obtain⟨p,vs,e1,t,r⟩:=h;exact⟨p,vs,e1,t.mono e,RepL.mono e r⟩
 | .obj i,_,h=>by unfold Rep at h ⊢;obtain⟨a,e1,t⟩:=h;exact⟨a,e1,e.pre _ _ t⟩
 | .lam t,_,h=>by unfold Rep at h ⊢;obtain⟨a,e1,t⟩:=h;exact⟨a,e1,t.mono e⟩
 | .clo t vs,_,h=>by unfold Rep at h ⊢;obtain⟨a,us,e1,t,r⟩:=h;exact⟨a,us,e1,t.mono e,RepL.mono e r⟩
theorem RepL.mono(e:Ext ρ H ρ' H'):∀{ds:List D}{vs:List V},RepL K mg ρ H ds vs->RepL K mg ρ' H' ds vs
 | [],_,h=>h
 | d::ds,_,h=>by unfold RepL at h ⊢;obtain⟨v,r,e1,h1,h2⟩:=h;exact⟨v,r,e1,Rep.mono e h1,RepL.mono e h2⟩
end
theorem RepL.nil:RepL K mg ρ H [] []:=by unfold RepL;rfl
theorem RepL.cons{d ds v vs}(h:Rep K mg ρ H d v)(t:RepL K mg ρ H ds vs):RepL K mg ρ H (d::ds) (v::vs):=by unfold RepL;exact⟨v,vs,rfl,h,t⟩
theorem RepL.length:∀{ds:List D}{vs:List V},RepL K mg ρ H ds vs->ds.length=vs.length
 | [],_,h=>by unfold RepL at h;subst h;rfl
 | d::ds,_,h=>by unfold RepL at h;obtain⟨v,r,rfl,_,h2⟩:=h;rw[List.length_cons,List.length_cons,h2.length]
theorem RepL.get:∀{ds:List D}{vs:List V}{i:Nat}{d:D},RepL K mg ρ H ds vs->ds[i]? = some d->∃v,vs[i]? = some v/\Rep K mg ρ H d v
 | [],_,_,_,_,e=>by simp at e
 | d::ds,_,0,x,h,e=>by unfold RepL at h;obtain⟨v,r,rfl,h1,_⟩:=h;simp at e;subst e;exact⟨v,rfl,h1⟩
 | d::ds,_,i+1,x,h,e=>by unfold RepL at h;obtain⟨v,r,rfl,_,h2⟩:=h;obtain⟨u,e1,e2⟩:=RepL.get (i:=i) (d:=x) h2 (by simpa using e);exact⟨u,by simpa using e1,e2⟩
theorem RepL.append:∀{ds es:List D}{vs us:List V},RepL K mg ρ H ds vs->RepL K mg ρ H es us->RepL K mg ρ H (ds++es) (vs++us)
 | [],_,_,_,h,t=>by unfold RepL at h;subst h;exact t
 | d::ds,_,_,_,h,t=>by unfold RepL at h;obtain⟨v,r,rfl,h1,h2⟩:=h;exact RepL.cons h1 (RepL.append h2 t)
theorem RepL.take:∀{ds:List D}{vs:List V} (n:Nat),RepL K mg ρ H ds vs->RepL K mg ρ H (ds.take n) (vs.take n)
 |_,_,0,_=>by simpa using RepL.nil
 | [],_,_+1,h=>by unfold RepL at h;subst h;simpa using RepL.nil
 | d::ds,_,n+1,h=>by unfold RepL at h;obtain⟨v,r,rfl,h1,h2⟩:=h;exact RepL.cons h1 (RepL.take n h2)
theorem RepL.drop:∀{ds:List D}{vs:List V} (n:Nat),RepL K mg ρ H ds vs->RepL K mg ρ H (ds.drop n) (vs.drop n)
 |_,_,0,h=>by simpa using h
 | [],_,_+1,h=>by unfold RepL at h;subst h;simpa using RepL.nil
 | d::ds,_,n+1,h=>by unfold RepL at h;obtain⟨v,r,rfl,h1,h2⟩:=h;simpa using RepL.drop n h2
theorem RepL.reverse:∀{ds:List D}{vs:List V},RepL K mg ρ H ds vs->RepL K mg ρ H ds.reverse vs.reverse
 | [],_,h=>by unfold RepL at h;subst h;exact RepL.nil
 | d::ds,_,h=>by unfold RepL at h;obtain⟨v,r,rfl,h1,h2⟩:=h;rw[qad,qad];exact RepL.append (RepL.reverse h2) (RepL.cons h1 RepL.nil)
theorem RepL.set{x:D}{u:V}(q:Rep K mg ρ H x u):∀{ds:List D}{vs:List V} (n:Nat),RepL K mg ρ H ds vs->RepL K mg ρ H (ds.set n x) (vs.set n u)
 | [],_,_,h=>by unfold RepL at h;subst h;simpa using RepL.nil
 | d::ds,_,0,h=>by unfold RepL at h;obtain⟨v,r,rfl,h1,h2⟩:=h;exact RepL.cons q h2
 | d::ds,_,n+1,h=>by unfold RepL at h;obtain⟨v,r,rfl,h1,h2⟩:=h;exact RepL.cons h1 (RepL.set q n h2)
end
def zxj(K:zFr)(mg:zMg)(ρ:List Addr)(H:Hp)(fs:List (Str×D))(vs:List (Str×V)):Prop :=
 vs.map (·.1)=fs.map (·.1)/\RepL K mg ρ H (fs.map (·.2)) (vs.map (·.2))
def zw9(K:zFr)(mg:zMg)(x:Str)(a:Addr):Prop:=∃(f:Addr) (o:Obj) (fd:FuncData) (c:Addr),mg x=some (.ref f)/\K.lookup f=some o/\o.data=.func fd/\fd.code=.ref c/\PySem.W.codeHdIn K c a=true
def MOk(K:zFr)(mg:zMg)(ρ:List Addr)(H:Hp)(a:Addr):MO->Prop
 | .lst ds=>∃vs,H a=some (.lst vs)/\RepL K mg ρ H ds vs
 | .ins c fs=>∃C dx vs,mg c=some (.ref C)/\H a=some (.ins C dx vs)/\zxj K mg ρ H fs vs
 | .dct kvs=>∃vs:List (Key×V),H a=some (.dK vs)/\vs.map (·.1)=kvs.map (fun p=>Sum.inl p.1)/\RepL K mg ρ H (kvs.map (·.2)) (vs.map (·.2))
 | .exc c=>∃C,mg c=some (.ref C)/\H a=some (.ext fun h=>∃o,h.get? a=some o/\o.cls=.ref C)
 | .tab x q=>zw9 K mg x a/\∃ps:Array Value,H a=some (.tbl ps)/\TriplesOk ps.toList/\∀(pos:Pos) (cv:Value),codeAmong pos ps.toList=some cv->∃c,cv=.ref c/\c∉ρ/\H c=some (.ext (zad c q))
structure StOk (K:zFr) (mg:zMg) (ρ:List Addr) (H:Hp) (S:Sto):Prop where
 len:ρ.length=S.length
 nd:ρ.Nodup
 ob:∀(i:Nat) (m:MO) (a:Addr),S[i]? = some m->ρ[i]? = some a->MOk K mg ρ H a m
section
variable {K:zFr}{mg:zMg}{ρ ρ':List Addr}{H H':Hp}{S:Sto}
theorem MOk.mono{a m}(h:MOk K mg ρ H a m)(e:Ext ρ H ρ' H')(k:H' a=H a):MOk K mg ρ' H' a m:=by
 cases m with
 |lst ds=>obtain⟨vs,h1,h2⟩:=h;exact⟨vs,k.trans h1,h2.mono e⟩
 |ins c fs=>obtain⟨C,dx,vs,h0,h1,h2,h3⟩:=h;exact⟨C,dx,vs,h0,k.trans h1,h2,h3.mono e⟩
 |dct kvs=>obtain⟨vs,h1,h2,h3⟩:=h;exact⟨vs,k.trans h1,h2,h3.mono e⟩
 |exc c=>obtain⟨C,h1,h2⟩:=h;exact⟨C,h1,k.trans h2⟩
 | tab x q=>
   obtain⟨h0,ps,h1,h2,h3⟩:=h;exact⟨h0,ps,k.trans h1,h2,fun pos cv z=>let⟨c,z1,z2,z3⟩:=h3 pos cv z;⟨c,z1,e.out z3 z2,e.keep _ _ z3 z2⟩⟩
theorem MOk.some{a m}(h:MOk K mg ρ H a m):∃o,H a=some o:=by
 cases m with
 |lst ds=>obtain⟨vs,h1,h2⟩:=h;exact⟨_,h1⟩
 |ins c fs=>obtain⟨C,dx,vs,h0,h1,h2,h3⟩:=h;exact⟨_,h1⟩
 |dct kvs=>obtain⟨vs,h1,h2,h3⟩:=h;exact⟨_,h1⟩
 |exc c=>obtain⟨C,h1,h2⟩:=h;exact⟨_,h2⟩
 |tab x q=>obtain⟨_,ps,h1,_⟩:=h;exact⟨_,h1⟩
theorem StOk.at(s:StOk K mg ρ H S){i:Nat}{a:Addr}(h:ρ[i]? = some a):∃m,S[i]? = some m/\MOk K mg ρ H a m:=by
 have hi:i<ρ.length:=(z6o.mp h).1;have hj:i<S.length:=by rw[<-s.len];exact hi
 exact⟨S[i],z6s hj,s.ob i _ a (z6s hj) h⟩
theorem StOk.adr(s:StOk K mg ρ H S){i:Nat}{m:MO}(h:S[i]? = some m):∃a,ρ[i]? = some a/\MOk K mg ρ H a m:=by
 have hi:i<S.length:=(z6o.mp h).1;have hj:i<ρ.length:=by rw[s.len];exact hi
 exact⟨ρ[i],z6s hj,s.ob i m _ h (z6s hj)⟩
theorem StOk.mem(s:StOk K mg ρ H S){a}(h:a∈ρ):∃o,H a=some o:=by obtain⟨i,hi,e⟩:=List.mem_iff_getElem.mp h;obtain⟨m,_,q⟩:=s.at (i:=i) (a:=a) (by rw[z6s hi,e]);exact q.some
theorem StOk.fresh(s:StOk K mg ρ H S){p}(h:H p=none):p∉ρ:=fun z=>by obtain⟨o,e⟩:=s.mem z;rw[h]at e;cases e
theorem ji(s:StOk K mg ρ H S){p:Addr}(o:HO)(h:H p=none):Ext ρ H ρ (upd H p o) :=
 ⟨fun _ _ e=>e,fun b u e _=>by rw[qd (qx e h)];exact e,fun _ z n=>absurd z n⟩
theorem StOk.new(s:StOk K mg ρ H S){p:Addr}(o:HO)(h:H p=none):StOk K mg ρ (upd H p o) S :=
 ⟨s.len,s.nd,fun i m a e1 e2=>by
   have q:=s.ob i m a e1 e2;obtain⟨u,z⟩:=q.some;exact q.mono (ji s o h) (qd (qx z h))⟩
theorem zbz(s:StOk K mg ρ H S){i:Nat}{a:Addr}(o:HO)(h:ρ[i]? = some a):Ext ρ H ρ (upd H a o) :=
 ⟨fun _ _ e=>e,fun b u e n=>by rw[qd (fun(z:b=a)=>n (by rw[z];exact z7n h))];exact e,fun _ z n=>absurd z n⟩
theorem zkr{l:List Addr}(hN:l.Nodup){i j:Nat}{x:Addr}(a:l[i]? = some x)(b:l[j]? = some x):i=j:=by obtain⟨h1,e1⟩:=z6o.mp a;obtain⟨h2,e2⟩:=z6o.mp b;exact(qb3 hN).mp (e1.trans e2.symm)
theorem StOk.set(s:StOk K mg ρ H S){i:Nat}{a:Addr}{o:HO}{m:MO}(h:ρ[i]? = some a)(q:MOk K mg ρ (upd H a o) a m):StOk K mg ρ (upd H a o) (S.set i m):=by
 refine⟨by rw[qat];exact s.len,s.nd,fun j m' b e1 e2=>?_⟩;by_cases hj:j=i
 · subst hj;have hi:j<S.length:=by rw[<-s.len];exact(z6o.mp h).1
   rw[z7w hi]at e1;cases e1;rw[h]at e2;cases e2;exact q
 · rw[z88 (z9m hj)]at e1;exact(s.ob j m' b e1 e2).mono (zbz s o h) (qd fun z=>hj (zkr s.nd (z▸e2) h))
theorem za7(s:StOk K mg ρ H S){p:Addr}(o:HO)(h:H p=none):Ext ρ H (ρ++[p]) (upd H p o) :=
 ⟨fun i a e=>by rw[z7d (z6o.mp e).1];exact e,fun b u e _=>by rw[qd (qx e h)];exact e,
   fun b z n=>by
     rcases z62.mp z with z | z
     · exact absurd z n
     · rw[z6q.mp z];exact h⟩
theorem StOk.add(s:StOk K mg ρ H S){p:Addr}{o:HO}{m:MO}(h:H p=none)(q:MOk K mg (ρ++[p]) (upd H p o) p m):StOk K mg (ρ++[p]) (upd H p o) (S++[m]):=by
 refine⟨by rw[z6k,z6k,s.len]<;>rfl,?_,fun j m' b e1 e2=>?_⟩
 · rw[qaf];refine⟨s.nd,by simp,fun x hx y hy=>?_⟩;rw[z6q.mp hy];exact fun z=>s.fresh h (z▸hx)
 · by_cases hj:j<S.length
   · rw[z7d hj]at e1;rw[z7d (by rw[s.len];exact hj)]at e2;have q:=s.ob j m' b e1 e2;obtain⟨u,z⟩:=q.some;exact q.mono (za7 s o h) (qd (qx z h))
   · rw[z6y (by omega)]at e1;rw[z6y (by rw[s.len];omega)]at e2;have e0:j-S.length=0:=by have:=(z6o.mp e1).1;simp at this;omega
     rw[e0]at e1;rw[s.len,e0]at e2;simp at e1 e2;subst e1 e2;exact q
theorem Rep.tup{p ds vs}{s:StOk K mg ρ H S}(h:H p=none)(r:RepL K mg ρ H ds vs):Rep K mg ρ (upd H p (.tup vs)) (.tup ds) (.ref p):=by unfold Rep;exact⟨p,vs,rfl,.inl ⟨s.fresh h,.inl qf⟩,r.mono (ji s _ h)⟩
theorem Rep.lst{p ds vs}{s:StOk K mg ρ H S}(h:H p=none)(r:RepL K mg ρ H ds vs):Rep K mg ρ (upd H p (.lst vs)) (.lst ds) (.ref p):=by unfold Rep;exact⟨p,vs,rfl,.inl ⟨s.fresh h,.inl qf⟩,r.mono (ji s _ h)⟩
end
structure EnvR (K:zFr) (mg:zMg) (ρ:List Addr) (H:Hp) (ev:Ev) (σ:St):Prop where
 len:ev.length=σ.length
 at_:∀(i:Nat) (d:D),ev[i]? = some (some d)->∃v,σ[i]? = some (some v)/\Rep K mg ρ H d v
section
variable {K:zFr}{mg:zMg}{ρ ρ':List Addr}{H H':Hp}{ev:Ev}{σ:St}
theorem EnvR.mono(h:EnvR K mg ρ H ev σ)(e:Ext ρ H ρ' H'):EnvR K mg ρ' H' ev σ :=
 ⟨h.len,fun i d q=>let⟨v,a,b⟩:=h.at_ i d q;⟨v,a,b.mono e⟩⟩
theorem EnvR.set(h:EnvR K mg ρ H ev σ){d v}(r:Rep K mg ρ H d v)(i:Nat):EnvR K mg ρ H (ev.set i (some d)) (σ.set i (some v)):=by
 refine⟨by rw[qat,qat];exact h.len,fun j x q=>?_⟩;by_cases hj:j=i
 · subst hj;have hi:j<ev.length:=by
     have:=(z6o.mp q).1
     rwa [qat]at this
   rw[z7w hi]at q;cases q;exact⟨v,by rw[z7w (by rw[<-h.len];exact hi)],r⟩
 · rw[z88 (z9m hj)]at q ⊢;exact h.at_ j x q
theorem EnvR.start{N:List Str}{ds:List D}{vs:List V}(h:RepL K mg ρ H ds vs):EnvR K mg ρ H (ds.map some++List.replicate (N.length-ds.length) none) (L2.start N vs):=by
 have hl:=h.length;refine⟨by unfold L2.start;simp[hl],fun i d q=>?_⟩;have hi:i<ds.length:=by
   by_cases hi:i<ds.length
   · exact hi
   · rw[z6y (by simpa using hi),List.getElem?_replicate]at q;split at q<;>cases q
 rw[z7d (by simpa using hi),z72]at q;cases e:ds[i]? with
 |none=>rw[e]at q;cases q
 | some x=>
   rw[e]at q;cases q;obtain⟨v,e1,r⟩:=h.get e;refine⟨v,?_,r⟩;unfold L2.start;rw[z7d (by simpa [<-hl] using hi),z72,e1];rfl
end
section
variable (K:zFr) (mg:zMg)
def tE(f:E):TE:=fun σ H Q=>∃ρ ev S d S',EnvR K mg ρ H ev σ/\StOk K mg ρ H S/\f ev S=some (d,S') /\
 ∀v ρ' H',Ext ρ H ρ' H'->StOk K mg ρ' H' S'->Rep K mg ρ' H' d v->Q v H'
def tB(f:B):TT:=fun σ H Q=>∃ρ ev S b S',EnvR K mg ρ H ev σ/\StOk K mg ρ H S/\f ev S=some (b,S') /\
 ∀ρ' H',Ext ρ H ρ' H'->StOk K mg ρ' H' S'->Q b H'
def tAs(f:As):TA:=fun σ H Q=>∃ρ ev S ds S',EnvR K mg ρ H ev σ/\StOk K mg ρ H S/\f ev S=some (ds,S') /\
 ∀vs ρ' H',Ext ρ H ρ' H'->StOk K mg ρ' H' S'->RepL K mg ρ' H' ds vs->Q vs H'
def Post(D:Ends)(S':Sto)(ρ:List Addr)(H:Hp):Out->Prop
 | .nx e=>∀σ' ρ' H',Ext ρ H ρ' H'->StOk K mg ρ' H' S'->EnvR K mg ρ' H' e σ'->D.nx σ' H'
 | .bk e=>∀σ' ρ' H',Ext ρ H ρ' H'->StOk K mg ρ' H' S'->EnvR K mg ρ' H' e σ'->D.bk σ' H'
 | .ct e=>∀σ' ρ' H',Ext ρ H ρ' H'->StOk K mg ρ' H' S'->EnvR K mg ρ' H' e σ'->D.ct σ' H'
 | .rt d=>∀v ρ' H',Ext ρ H ρ' H'->StOk K mg ρ' H' S'->Rep K mg ρ' H' d v->D.rt v H'
def tC(f:C):TS:=fun D σ H=>∃ρ ev S o S',EnvR K mg ρ H ev σ/\StOk K mg ρ H S/\f ev S=some (o,S')/\Post K mg D S' ρ H o
def spG(g:G):Sp:=fun vs H Q _=>∃ρ ds S d S',RepL K mg ρ H ds vs/\StOk K mg ρ H S/\g ds S=some (d,S') /\
 ∀v ρ' H',Ext ρ H ρ' H'->StOk K mg ρ' H' S'->Rep K mg ρ' H' d v->Q v H'
end
theorem Post.ext{K mg}{D:Ends}{S':Sto}{ρ ρ' H H'}(e:Ext ρ H ρ' H'):∀{o:Out},Post K mg D S' ρ H o->Post K mg D S' ρ' H' o
 | .nx _,h=>fun σ' _ _ e'=>h σ' _ _ (e.trans e')
 | .bk _,h=>fun σ' _ _ e'=>h σ' _ _ (e.trans e')
 | .ct _,h=>fun σ' _ _ e'=>h σ' _ _ (e.trans e')
 | .rt _,h=>fun v _ _ e'=>h v _ _ (e.trans e')
def FE(X:Cx)(e:Expr)(f:E):Prop:=PE X e (tE X.K X.mg f)
def FB(X:Cx)(e:Expr)(f:B):Prop:=PT X e (tB X.K X.mg f)
def FW(X:Cx)(e:Expr)(f:B):Prop:=PW X e (tB X.K X.mg f)
def FA(X:Cx)(es:List Expr)(f:As):Prop:=PA X es (tAs X.K X.mg f)
def FS(X:Cx)(st:Stmt)(f:C):Prop:=PS X st (tC X.K X.mg f)
def FSs(X:Cx)(st:List Stmt)(f:C):Prop:=PSs X st (tC X.K X.mg f)
theorem qy{X:Cx}{e:Expr}{t t':TE}(h:PE X e t)(m:∀σ H Q,t' σ H Q->t σ H Q):PE X e t':=fun pins s σ H Q I q=>h pins s σ H Q I (m _ _ _ q)
theorem zdj{X:Cx}{e:Expr}{t t':TT}(h:PT X e t)(m:∀σ H Q,t' σ H Q->t σ H Q):PT X e t':=fun pins s σ H Q I q=>h pins s σ H Q I (m _ _ _ q)
theorem zoc{X:Cx}{e:Expr}{t t':TT}(h:PW X e t)(m:∀σ H Q,t' σ H Q->t σ H Q):PW X e t':=fun w pins s σ H Q I q=>h w pins s σ H Q I (m _ _ _ q)
theorem zfz{X:Cx}{e:List Expr}{t t':TA}(h:PA X e t)(m:∀σ H Q,t' σ H Q->t σ H Q):PA X e t':=fun pos pins s σ H Q I q=>h pos pins s σ H Q I (m _ _ _ q)
theorem xw{X:Cx}{e:Stmt}{t t':TS}(h:PS X e t)(m:∀σ H Q,t' Q σ H->t Q σ H):PS X e t':=fun pins s σ H Q I q=>h pins s σ H Q I (m _ _ _ q)
theorem zkk{X:Cx}{e:List Stmt}{t t':TS}(h:PSs X e t)(m:∀σ H Q,t' Q σ H->t Q σ H):PSs X e t':=fun pins s σ H Q I q=>h pins s σ H Q I (m _ _ _ q)
end F
namespace F
open PySem L2
noncomputable def eV(i:Nat):E:=fun ev S=>match ev[i]? with
 |some (some d)=>some (d,S)
 |_=>none
noncomputable def eK(d:D):E:=fun _ S=>some (d,S)
def e1(op:D->Option D)(f:E):E:=fun ev S=>(f ev S).bind fun p=>(op p.1).map fun d=>(d,p.2)
def e2(op:D->D->Option D)(f g:E):E:=fun ev S=>(f ev S).bind fun p=>(g ev p.2).bind fun q=>(op p.1 q.1).map fun d=>(d,q.2)
def e2s(op:Sto->D->D->Option D)(f g:E):E:=fun ev S=>(f ev S).bind fun p=>(g ev p.2).bind fun q=>(op q.2 p.1 q.1).map fun d=>(d,q.2)
def aN:As:=fun _ S=>some ([],S)
def aC(f:E)(g:As):As:=fun ev S=>(f ev S).bind fun p=>(g ev p.2).bind fun q=>some (p.1::q.1,q.2)
def eA(op:Sto->List D->Option D)(g:As):E:=fun ev S=>(g ev S).bind fun q=>(op q.2 q.1).map fun d=>(d,q.2)
def zn(g:G)(a:As):E:=fun ev S=>(a ev S).bind fun q=>g q.1 q.2
def zc1(c:Str)(S:Sto):D->Option (Nat×List (Str×D))
 | .obj i=>match S[i]? with
   |some (.ins c' fs)=>if c'=c then some (i,fs)else none
   |_=>none
 |_=>none
def x5(c m:Str)(g:G)(f:E)(a:As):E:=fun ev S=>(f ev S).bind fun p=>(zc1 c p.2 p.1).bind fun r=>if r.2.lookup m=none then (a ev p.2).bind fun q=>g (p.1::q.1) q.2 else none
def zmm(c:Str)(g:G)(a:As):E:=fun ev S=>(a ev S).bind fun q=>(g (.obj q.2.length::q.1) (q.2++[.ins c []])).bind fun r=>match r.1 with
 | .non=>some (.obj q.2.length,r.2)
 |_=>none
def zuf(c n:Str)(f:E):E:=fun ev S=>(f ev S).bind fun p=>(zc1 c p.2 p.1).bind fun r=>(r.2.lookup n).map fun d=>(d,p.2)
def zeu(g:As):E:=fun ev S=>(g ev S).bind fun q=>if q.1.length<=sizeLine then some (.obj q.2.length,q.2++[.lst q.1])else none
def zb3(g:As):E:=eA (fun _ ds=>if ds.length<=sizeLine then some (.tup ds)else none) g
def zq1(g:As):E:=eA (fun _ ds=>if ds.length<=sizeLine then some (.lst ds)else none) g
def bE(f:E):B:=fun ev S=>(f ev S).bind fun p=>match p.1 with
 | .bl b=>some (b,p.2)
 |_=>none
def zbq(f:B):B:=fun ev S=>(f ev S).map fun p=>(!p.1,p.2)
def zm6(f g:B):B:=fun ev S=>(f ev S).bind fun p=>if p.1=true then g ev p.2 else some (false,p.2)
def bOr(f g:B):B:=fun ev S=>(f ev S).bind fun p=>if p.1=true then some (true,p.2)else g ev p.2
def zxg(f:E):E:=e1 (fun d=>match d with | .bl b=>some (.bl !b) | _=>none) f
def zfi(f g:E):E:=fun ev S=>(f ev S).bind fun p=>match p.1 with
 | .bl true=>g ev p.2
 | .bl false=>some (.bl false,p.2)
 |_=>none
def je:C:=fun ev S=>some (.nx ev,S)
def z5(a b:C):C:=fun ev S=>(a ev S).bind fun p=>match p.1 with
 | .nx e=>b e p.2
 |o=>some (o,p.2)
def qm(f:E):C:=fun ev S=>(f ev S).map fun p=>(.rt p.1,p.2)
def zyd:C:=fun _ S=>some (.rt .non,S)
def zcb(f:E):C:=fun ev S=>(f ev S).map fun p=>(.nx ev,p.2)
def qp(i:Nat)(f:E):C:=fun ev S=>(f ev S).map fun p=>(.nx (ev.set i (some p.1)),p.2)
def ztn(ev:Ev):List Nat->List D->Option Ev
 | [],[]=>some ev
 |i::is,d::ds=>ztn (ev.set i (some d)) is ds
 |_,_=>none
def sIf(c:B)(a b:C):C:=fun ev S=>(c ev S).bind fun p=>if p.1=true then a ev p.2 else b ev p.2
def zhc:C:=fun _ _=>none
def ztr(n:Str)(d:D):List (Str×D)->List (Str×D)
 | []=>[(n,d)]
 | (g,x)::r=>if g=n then (g,d)::r else (g,x)::ztr n d r
def zl1(c n:Str)(o v:E):C:=fun ev S=>(v ev S).bind fun p=>(o ev p.2).bind fun q=>(zc1 c q.2 q.1).bind fun r=>if r.2.length<1000 then some (.nx ev,q.2.set r.1 (.ins c (ztr n p.1 r.2)))else none
def zlz(o i v:E):C:=fun ev S=>(v ev S).bind fun p=>(o ev p.2).bind fun q=>(i ev q.2).bind fun r=>match q.1,r.1 with
 | .obj a,.int k=>(match r.2[a]? with
   |some (.lst ds)=>(ixN ds.length k).map fun j=>(.nx ev,r.2.set a (.lst (ds.set j p.1)))
   |_=>none)
 |_,_=>none
def xg(o v:E):C:=fun ev S=>(o ev S).bind fun q=>match q.1 with
 | .obj a=>(match q.2[a]? with
   | some (.lst _)=>(v ev q.2).bind fun p=>(match p.2[a]? with
     |some (.lst ds)=>if ds.length<sizeLine then some (.nx ev,p.2.set a (.lst (ds++[p.1])))else none
     |_=>none)
   |_=>none)
 |_=>none
def za0(i:Nat)(body:C):List D->Ev->Sto->Option (Out×Sto)
 | [],ev,S=>some (.nx ev,S)
 | d::ds,ev,S=>(body (ev.set i (some d)) S).bind fun p=>match p.1 with
   | .nx e=>za0 i body ds e p.2
   | .ct e=>za0 i body ds e p.2
   | .bk e=>some (.nx e,p.2)
   | .rt x=>some (.rt x,p.2)
def zfv(i:Nat)(f:E)(body:C):C:=fun ev S=>(f ev S).bind fun p=>match p.1 with
 | .lst ds=>za0 i body ds ev p.2
 |_=>none
def jc(lo:Int)(n:Nat):List D:=(List.range n).map fun k:Nat=>D.int (lo+(k:Int))
def zix(i:Nat)(f:E)(body:C):C:=fun ev S=>(f ev S).bind fun p=>match p.1 with
 | .int j=>if -(2^62)<=j/\j<2^62 then za0 i body (jc 0 j.toNat) ev p.2 else none
 |_=>none
def zap(c:B)(body:C):Nat->Ev->Sto->Option (Out×Sto)
 |0,_,_=>none
 | n+1,ev,S=>(c ev S).bind fun p=>if p.1=true then (body ev p.2).bind fun q=>(match q.1 with
   | .nx e=>zap c body n e q.2
   | .ct e=>zap c body n e q.2
   | .bk e=>some (.nx e,q.2)
   | .rt x=>some (.rt x,q.2))else some (.nx ev,p.2)
def zhb(n:Nat)(c:B)(body:C):C:=zap c body n
def z9(N n:Nat)(c:C):G:=fun ds S=>if ds.length=n then (match c (ds.map some++List.replicate (N-ds.length) none) S with
 |some (.nx _,S1)=>some (.non,S1)
 |some (.rt d,S1)=>some (d,S1)
 |_=>none)else none
theorem zy{α β:Type}{o:Option α}{f:α->Option β}{b:β}(h:o.bind f=some b):∃a,o=some a/\f a=some b:=by
 cases o with
 |none=>cases h
 |some a=>exact⟨a,rfl,h⟩
theorem zav{α β:Type}{o:Option α}{f:α->β}{b:β}(h:o.map f=some b):∃a,o=some a/\f a=b:=by
 cases o with
 |none=>cases h
 |some a=>exact⟨a,rfl,z7s h⟩
section
variable {X:Cx}
def zfl(K:zFr)(mg:zMg)(R:R2)(op:Sto->D->D->Option D):Prop :=
 ∀(ρ:List Addr) (H:Hp) (S:Sto) (x y:V) (dx dy d:D) (Q:VK),StOk K mg ρ H S->Rep K mg ρ H dx x->Rep K mg ρ H dy y->op S dx dy=some d ->
   (∀v H',Ext ρ H ρ H'->StOk K mg ρ H' S->Rep K mg ρ H' d v->Q v H')->R x y H Q
def zxi(K:zFr)(mg:zMg)(R:List V->Hp->VK->Prop)(op:Sto->List D->Option D):Prop :=
 ∀(ρ:List Addr) (H:Hp) (S:Sto) (xs:List V) (ds:List D) (d:D) (Q:VK),StOk K mg ρ H S->RepL K mg ρ H ds xs->op S ds=some d ->
   (∀v H',Ext ρ H ρ H'->StOk K mg ρ H' S->Rep K mg ρ H' d v->Q v H')->R xs H Q
section
variable {K:zFr}{mg:zMg}{R R':R2}{op op':Sto->D->D->Option D}
theorem t2(hs:zfl K mg R op){f g:E}{σ:St}{H:Hp}{Q:VK}(h:tE K mg (e2s op f g) σ H Q):tOp R (tE K mg f) (tE K mg g) σ H Q:=by obtain⟨ρ,ev,S,d,S',hE,hS,hf,k⟩:=h;obtain⟨⟨x,S1⟩,q1,hf⟩:=zy hf;obtain⟨⟨y,S2⟩,q2,hf⟩:=zy hf;obtain⟨z,q3,hf⟩:=zav hf;cases hf;refine⟨ρ,ev,S,x,S1,hE,hS,q1,fun v ρ1 H1 E1 hS1 r1=>⟨ρ1,ev,S1,y,S2,hE.mono E1,hS1,q2,fun u ρ2 H2 E2 hS2 r2=>?_⟩⟩;exact hs ρ2 H2 _ v u x y _ Q hS2 (r1.mono E2) r2 q3 fun w H' E3 hS3 r3=>k w ρ2 H' ((E1.trans E2).trans E3) hS3 r3
end
theorem zd8{o:Operator}{R:R2}{op:Sto->D->D->Option D}{a b:Expr}{f g:E}{pos:Pos}(ho:OpR X (binaryOp o) R)(hs:zfl X.K X.mg R op)(ha:FE X a f)(hb:FE X b g):FE X (.BinOp a o b pos) (e2s op f g) :=
 qy (zyy ho ha hb) fun _ _ _ h=>t2 hs h
theorem zhw{o:CmpOp}{R:R2}{op:Sto->D->D->Option D}{a b:Expr}{f g:E}{pos:Pos}(ho:OpR X (compareOp o) R)(hs:zfl X.K X.mg R op)(ha:FE X a f)(hb:FE X b g)(hm:behindInMarks o b=false):FE X (.Compare a [o] [b] pos) (e2s op f g) :=
 qy (zvq ho ha hb hm) fun _ _ _ h=>t2 hs h
theorem zus{K mg}{f:E}{t:TE}{σ:St}{H:Hp}{Q:Bool->Hp->Prop}(m:∀Q,tE K mg f σ H Q->t σ H Q)(h:tB K mg (bE f) σ H Q):zq9 t σ H Q:=by
 obtain⟨ρ,ev,S,b,S',hE,hS,hf,k⟩:=h;obtain⟨⟨x,S1⟩,q1,hf⟩:=zy hf;cases x with
 | bl c=>
   cases hf;refine m _ ⟨ρ,ev,S,_,_,hE,hS,q1,fun v ρ1 H1 E1 hS1 r1=>?_⟩;exact⟨b,r1,k ρ1 H1 E1 hS1⟩
 |_=>cases hf
theorem zbt{o:CmpOp}{R:R2}{op:Sto->D->D->Option D}{a b:Expr}{f g:E}{pos:Pos}(ho:OpR X (compareOp o) R)(hs:zfl X.K X.mg R op)(ha:FE X a f)(hb:FE X b g)(hm:behindInMarks o b=false):FB X (.Compare a [o] [b] pos) (bE (e2s op f g)) :=
 zdj (zvf ho ha hb hm) fun _ _ _ h=>zus (fun _ h=>t2 hs h) h
theorem zf(i:Nat){x:Str}{pos:Pos}(hN:X.N[i]? = some x:=by rfl)(hv:Vis X.env.scope x:=by first | exact Or.inl rfl | exact Or.inr (Or.inl rfl) | exact Or.inr (Or.inr rfl))(hd:(x==("__debug__":Str))=false:=by decide)
   (hcd:(x==("__classdict__":Str))=false:=by decide):FE X (.Name x pos) (eV i) :=
 qy (zyv hN hv hd hcd) fun σ H Q h=>by
   obtain⟨ρ,ev,S,d,S',hE,hS,hf,k⟩:=h;unfold eV at hf;split at hf
   · rename_i x e;cases hf;obtain⟨v,e1,r⟩:=hE.at_ i _ e;exact⟨v,e1,k v ρ H (Ext.refl _ _) hS r⟩
   · cases hf
theorem zbm{e:Expr}{v:V}{d:D}(h:PE X e (L2.tC v))(r:∀ρ H,Rep X.K X.mg ρ H d v):FE X e (eK d) :=
 qy h fun σ H Q h=>by obtain⟨ρ,ev,S,d,S',hE,hS,hf,k⟩:=h;cases hf;exact k v ρ H (Ext.refl _ _) hS (r _ _)
theorem zm{i:Int}{j pos}:FE X (.Constant (.int i) j pos) (eK (.int i)):=zbm zy2 fun _ _=>rfl
theorem za6{b:Bool}{j pos}:FE X (.Constant (.bool b) j pos) (eK (.bl b)):=zbm z2w fun _ _=>rfl
theorem jm{j pos}:FE X (.Constant .none j pos) (eK .non):=zbm zy1 fun _ _=>rfl
theorem zar{x:Str}{j pos}:FE X (.Constant (.str x) j pos) (eK (.str x)):=zbm zyx fun _ _=>rfl
theorem z0{x:Str}{n:Int}{pos:Pos}(hm:∃t,X.mg x=some (.int n t))(hg:Gl X x:=by rfl)(hd:(x==("__debug__":Str))=false:=by decide):FE X (.Name x pos) (eK (.int n)):=by obtain⟨t,hm⟩:=hm;exact zbm (zvo hg hm (v:=.int n) ⟨t,rfl⟩ hd) fun _ _=>rfl
theorem ze:FA X [] aN:=zfz zon fun σ H Q h=>by obtain⟨ρ,ev,S,d,S',hE,hS,hf,k⟩:=h;cases hf;exact k [] ρ H (Ext.refl _ _) hS RepL.nil
theorem zb{e:Expr}{es:List Expr}{f:E}{g:As}(ha:FE X e f)(hr:FA X es g)(hs:starEach (e::es) X.env=(false,eval e X.env)::starEach es X.env:=by exact qb rfl):FA X (e::es) (aC f g) :=
 zfz (zf0 ha hr hs) fun σ H Q h=>by obtain⟨ρ,ev,S,d,S',hE,hS,hf,k⟩:=h;obtain⟨⟨x,S1⟩,q1,hf⟩:=zy hf;obtain⟨⟨y,S2⟩,q2,hf⟩:=zy hf;cases hf;refine⟨ρ,ev,S,x,S1,hE,hS,q1,fun v ρ1 H1 E1 hS1 r1=>⟨ρ1,ev,S1,y,_,hE.mono E1,hS1,q2,fun vs ρ2 H2 E2 hS2 r2=>?_⟩⟩;exact k (v::vs) ρ2 H2 (E1.trans E2) hS2 (RepL.cons (r1.mono E2) r2)
theorem tA{K mg}{R:List V->Hp->VK->Prop}{op:Sto->List D->Option D}(hs:zxi K mg R op){g:As}{σ:St}{H:Hp}{Q:VK}(h:tE K mg (eA op g) σ H Q):tAs K mg g σ H fun vs H1=>R vs H1 Q:=by obtain⟨ρ,ev,S,d,S',hE,hS,hf,k⟩:=h;obtain⟨⟨x,S1⟩,q1,hf⟩:=zy hf;obtain⟨z,q3,hf⟩:=zav hf;cases hf;exact⟨ρ,ev,S,x,_,hE,hS,q1,fun vs ρ1 H1 E1 hS1 r1=>hs ρ1 H1 _ vs x _ Q hS1 r1 q3 fun w H' E3 hS3 r3=>k w ρ1 H' (E1.trans E3) hS3 r3⟩
theorem xu{es:List Expr}{g:As}{x1 pos}(h:FA X es g):FE X (.Tuple es x1 pos) (zb3 g) :=
 qy (zyw h) fun σ H Q h=>tA (K:=X.K) (mg:=X.mg) (R:=fun xs H1 Q=>xs.length<=sizeLine/\∀p,H1 p=none->Q (.ref p) (upd H1 p (.tup xs))) (fun ρ H S xs ds d Q hS r e k=>by
   split at e
   · rename_i hl;cases e;exact⟨by rw[<-r.length];exact hl,fun p hp=>k _ _ (ji hS _ hp) (hS.new _ hp) (Rep.tup (s:=hS) hp r)⟩
   · cases e) h
theorem zp4{es:List Expr}{g:As}{pos}(h:FA X es g):FE X (.List es pos) (zq1 g) :=
 qy (ztv h) fun σ H Q h=>tA (K:=X.K) (mg:=X.mg) (R:=fun xs H1 Q=>xs.length<=sizeLine/\∀p,H1 p=none->Q (.ref p) (upd H1 p (.lst xs))) (fun ρ H S xs ds d Q hS r e k=>by
   split at e
   · rename_i hl;cases e;exact⟨by rw[<-r.length];exact hl,fun p hp=>k _ _ (ji hS _ hp) (hS.new _ hp) (Rep.lst (s:=hS) hp r)⟩
   · cases e) h
theorem zd7{es:List Expr}{g:As}{pos}(h:FA X es g):FE X (.List es pos) (zeu g) :=
 qy (ztv h) fun σ H Q h=>by
   obtain⟨ρ,ev,S,d,S',hE,hS,hf,k⟩:=h;obtain⟨⟨x,S1⟩,q1,hf⟩:=zy hf;dsimp only at hf;split at hf
   · rename_i hl;cases hf;refine⟨ρ,ev,S,x,S1,hE,hS,q1,fun vs ρ1 H1 E1 hS1 r1=>⟨by rw[<-r1.length];exact hl,fun p hp=>?_⟩⟩;refine k _ _ _ (E1.trans (za7 hS1 _ hp)) (hS1.add hp ⟨vs,qf,r1.mono (za7 hS1 _ hp)⟩) ?_;unfold Rep;refine⟨p,rfl,?_⟩;rw[z6y (by rw[hS1.len]<;>exact z6l _),hS1.len];simp
   · cases hf
theorem zlb{id:String}{R:List V->Hp->VK->Prop}{op:Sto->List D->Option D}{x:Str}{p pos:Pos}{e:Expr}{es:List Expr}{g:As}(hc:CallR X (.builtin id) R)(hs:zxi X.K X.mg R op)(hm:X.mg x=none)(hv:bootBuiltins x=some (.builtin id))(ha:FA X (e::es) g)
   (hg:Gl X x:=by rfl) (hn:x≠"__name__":=by decide) (hdb:(x==("__debug__":Str))=false:=by decide)
   (he:starEach (e::es) X.env=(false,eval e X.env)::starEach es X.env:=by exact qb rfl) (hpl:(backTo pos (starEach es X.env)).any (·.1)=false:=by exact jh rfl):FE X (.Call (.Name x p) (e::es) [] pos) (eA op g) :=
 qy (zrz hc hg hm hv ha hn hdb he hpl) fun σ H Q h=>tA hs h
end
structure Cal (P:Program) (w:World) (K:zFr) (mg:zMg) (base:Heap) (k:Nat) (x:Str) (g:G):Prop where
 ex:∃(f:Addr) (fd:FuncData) (ps:List Str) (ds:List Value) (dvs:List V) (dds:List D) (gg:G),FnOk P w K mg base CX0 k f fd ps (spG K mg gg)/\mg x=some (.ref f)/\PySem.W.keepIn K (.ref f)=true /\
   Binds K fd ps ds/\Vals dvs ds/\(∀ρ H,RepL K mg ρ H dds dvs)/\∀args S r,g args S=some r->gg (args++dds) S=some r
theorem Cal.mono{P w K mg base j k x g}(c:Cal P w K mg base j x g)(h:j<=k):Cal P w K mg base k x g:=by obtain⟨f,fd,ps,ds,dvs,dds,gg,F,r⟩:=c.ex;exact⟨f,fd,ps,ds,dvs,dds,gg,F.mono h,r⟩
structure Mth (P:Program) (w:World) (K:zFr) (mg:zMg) (base:Heap) (k:Nat) (c m:Str) (g:G):Prop where
 ex:∃(C f:Addr) (fd:FuncData) (ps:List Str) (ds:List Value) (dvs:List V) (dds:List D) (gg:G),FnOk P w K mg base CX0 k f fd ps (spG K mg gg)/\mg c=some (.ref C)/\Cls K C/\Meth K C m f /\
   Binds K fd ps ds/\Vals dvs ds/\(∀ρ H,RepL K mg ρ H dds dvs)/\∀args S r,g args S=some r->gg (args++dds) S=some r
structure Mak (P:Program) (w:World) (K:zFr) (mg:zMg) (base:Heap) (k:Nat) (c:Str) (g:G):Prop where
 ex:∃(C f:Addr) (fd:FuncData) (ps:List Str) (ds:List Value) (dvs:List V) (dds:List D) (gg:G),FnOk P w K mg base CX0 k f fd ps (spG K mg gg)/\mg c=some (.ref C)/\Mk K C f /\
   Binds K fd ps ds/\Vals dvs ds/\(∀ρ H,RepL K mg ρ H dds dvs)/\∀args S r,g args S=some r->gg (args++dds) S=some r
def Fld(K:zFr)(mg:zMg)(c n:Str):Prop:=∀C,mg c=some (.ref C)->Cls K C/\NoAttr K C n
section
variable {X:Cx}{k:Nat}{x c m n:Str}{g:G}{e o:Expr}{es:List Expr}{a:As}{f:E}{p pos apos:Pos}
theorem zj9{K mg}{gg:G}{dds:List D}{dvs:List V}(hdd:∀ρ H,RepL K mg ρ H dds dvs)(hg:∀args S r,g args S=some r->gg (args++dds) S=some r){σ:St}{H:Hp}{Q:VK}(h:tE K mg (zn g a) σ H Q) :
   zuy (spG K mg gg) dvs E0 (tAs K mg a) σ H Q:=by
 obtain⟨ρ,ev,S,d,S',hE,hS,hf,k⟩:=h;obtain⟨⟨ds,S1⟩,q1,hf⟩:=zy hf;exact⟨ρ,ev,S,ds,S1,hE,hS,q1,fun vs ρ1 H1 E1 hS1 r1=>⟨ρ1,ds++dds,S1,d,S',r1.append (hdd ρ1 H1),hS1,hg _ _ _ hf,fun v ρ' H' E' hS' r'=>k v ρ' H' (E1.trans E') hS' r'⟩⟩
theorem zg(cal:Cal X.prog X.w X.K X.mg X.base k x g)(hr:Room k X.A)(ha:FA X (e::es) a)(hg:Gl X x:=by rfl)(hdb:(x==("__debug__":Str))=false:=by decide)
   (he:starEach (e::es) X.env=(false,eval e X.env)::starEach es X.env:=by exact qb rfl) (hpl:(backTo pos (starEach es X.env)).any (·.1)=false:=by exact jh rfl) :
   FE X (.Call (.Name x p) (e::es) [] pos) (zn g a):=by
 obtain⟨f,fd,ps,ds,dvs,dds,gg,F,hm,hk,hb,hd,hdd,hgg⟩:=cal.ex;exact qy (zvr F hr hg hm hk hb hd ziz ha hdb he hpl) fun σ H Q h=>zj9 hdd hgg h
theorem zc8{c:Str}{S:Sto}{d:D}{r:Nat×List (Str×D)}(h:zc1 c S d=some r):d=.obj r.1/\S[r.1]? = some (.ins c r.2):=by
 unfold zc1 at h;split at h
 · split at h
   · rename_i i _ c' fs e;split at h
     · rename_i hc;cases h;subst hc;exact⟨rfl,e⟩
     · cases h
   · cases h
 · cases h
theorem zfw{K mg ρ H S}(hS:StOk K mg ρ H S){c:Str}{i:Nat}{fs:List (Str×D)}{v:V}(h:S[i]? = some (.ins c fs))(r:Rep K mg ρ H (.obj i) v) :
   ∃b C dx vs,v=.ref b/\ρ[i]? = some b/\mg c=some (.ref C)/\H b=some (.ins C dx vs)/\zxj K mg ρ H fs vs:=by
 unfold Rep at r;obtain⟨b,rfl,e⟩:=r;obtain⟨C,dx,vs,h1,h2,h3⟩:=hS.ob i _ b h e;exact⟨b,C,dx,vs,rfl,e,h1,h2,h3⟩
theorem zdr{fs:List (Str×D)}{vs:List (Str×V)}{m:Str}(h:vs.map (·.1)=fs.map (·.1))(e:fs.lookup m=none):vs.lookup m=none:=by
 induction fs generalizing vs with
 | nil=>
   cases vs with
   |nil=>rfl
   |cons _ _=>cases h
 | cons q fs ih=>
   cases vs with
   |nil=>cases h
   | cons q' vs=>
     obtain⟨a,b⟩:=q;obtain⟨a',b'⟩:=q';simp only[z65,z84]at h;obtain⟨h1,h2⟩:=h;subst h1;simp only[List.lookup]at e ⊢;split at e
     · cases e
     · exact ih h2 e
theorem zi8{K mg ρ H}{fs:List (Str×D)}{vs:List (Str×V)}{m:Str}{d:D}(h:zxj K mg ρ H fs vs)(e:fs.lookup m=some d):∃v,vs.lookup m=some v/\Rep K mg ρ H d v:=by
 obtain⟨h,r⟩:=h
 induction fs generalizing vs with
 |nil=>cases e
 | cons q fs ih=>
   cases vs with
   |nil=>cases h
   | cons q' vs=>
     obtain⟨a,b⟩:=q;obtain⟨a',b'⟩:=q';simp only[z65,z84]at h;obtain⟨h1,h2⟩:=h;subst h1;rw[z65,z65]at r;unfold RepL at r;obtain⟨u,t,e1,r1,r2⟩:=r;cases e1;simp only[List.lookup]at e ⊢;split at e
     · cases e;exact⟨_,rfl,r1⟩
     · exact ih e h2 r2
theorem jp(mt:Mth X.prog X.w X.K X.mg X.base k c m g)(hr:Room k X.A)(ho:FE X o f)(ha:FA X (e::es) a){pl:Sem Bool}
   (hst:starEach (e::es) X.env=(false,eval e X.env)::starEach es X.env:=by exact qb rfl) (hpl:(backTo pos (starEach es X.env)).any (·.1)=false:=by exact jh rfl)
   (ht:eval (.Call (.Attribute o m apos) (e::es) [] pos) X.env=(do
     let ov <-eval o X.env
     standAt apos.atName
     let(f,first) <-holding [ov] (getMethod ov m pl)
     callWith pos f first (backTo pos (starEach (e::es) X.env)) (backToKw pos (keywordEach [] X.env))):=by rfl) :
   FE X (.Call (.Attribute o m apos) (e::es) [] pos) (x5 c m g f a):=by
 obtain⟨C,fa,fd,ps,ds,dvs,dds,gg,F,hm,hc,hme,hb,hd,hdd,hgg⟩:=mt.ex;refine qy (zvm ho hc hme F hr hb hd ziz ha hst hpl ht) fun σ H Q h=>?_;obtain⟨ρ,ev,S,d,S',hE,hS,hf,k⟩:=h;obtain⟨⟨y,S1⟩,q1,hf⟩:=zy hf;obtain⟨⟨i,fs⟩,q2,hf⟩:=zy hf;dsimp only at hf q2;split at hf
 · rename_i hl;obtain⟨⟨ys,S2⟩,q3,hf⟩:=zy hf;obtain⟨rfl,hi⟩:=zc8 q2;refine⟨ρ,ev,S,_,S1,hE,hS,q1,fun v ρ1 H1 E1 hS1 r1=>?_⟩;obtain⟨b,C',dx,vs,rfl,hb1,hm',hb2,hb3⟩:=zfw hS1 hi r1;have ec:C'=C:=by rw[hm]at hm';cases hm';rfl
   subst ec;refine⟨b,dx,vs,rfl,hb2,zdr hb3.1 hl,ρ1,ev,S1,ys,S2,hE.mono E1,hS1,q3,fun us ρ2 H2 E2 hS2 r2=>?_⟩;exact⟨ρ2,_,S2,d,S',(RepL.cons (r1.mono E2) r2).append (hdd ρ2 H2),hS2,hgg _ _ _ hf,fun v ρ' H' E' hS' r'=>k v ρ' H' ((E1.trans E2).trans E') hS' r'⟩
 · cases hf
theorem zsi(mt:Mth X.prog X.w X.K X.mg X.base k c m g)(hr:Room k X.A)(ho:FE X o f){pl:Sem Bool}
   (ht:eval (.Call (.Attribute o m apos) [] [] pos) X.env=(do
     let ov <-eval o X.env
     standAt apos.atName
     let(f,first) <-holding [ov] (getMethod ov m pl)
     callWith pos f first (backTo pos (starEach [] X.env)) (backToKw pos (keywordEach [] X.env))):=by rfl) :
   FE X (.Call (.Attribute o m apos) [] [] pos) (x5 c m g f aN):=by
 obtain⟨C,fa,fd,ps,ds,dvs,dds,gg,F,hm,hc,hme,hb,hd,hdd,hgg⟩:=mt.ex;refine qy (zrx ho hc hme F hr hb hd ziz ht) fun σ H Q h=>?_;obtain⟨ρ,ev,S,d,S',hE,hS,hf,k⟩:=h;obtain⟨⟨y,S1⟩,q1,hf⟩:=zy hf;obtain⟨⟨i,fs⟩,q2,hf⟩:=zy hf;dsimp only at hf q2;split at hf
 · rename_i hl;obtain⟨⟨ys,S2⟩,q3,hf⟩:=zy hf;cases q3;obtain⟨rfl,hi⟩:=zc8 q2;refine⟨ρ,ev,S,_,S1,hE,hS,q1,fun v ρ1 H1 E1 hS1 r1=>?_⟩;obtain⟨b,C',dx,vs,rfl,hb1,hm',hb2,hb3⟩:=zfw hS1 hi r1;have ec:C'=C:=by rw[hm]at hm';cases hm';rfl
   subst ec;refine⟨b,dx,vs,rfl,hb2,zdr hb3.1 hl,?_⟩;exact⟨ρ1,_,S1,d,S',(RepL.cons r1 RepL.nil).append (hdd ρ1 H1),hS1,hgg _ _ _ hf,fun v ρ' H' E' hS' r'=>k v ρ' H' (E1.trans E') hS' r'⟩
 · cases hf
theorem zq7{K mg}{gg:G}{C:Addr}{dds:List D}{dvs:List V}(hm:mg c=some (.ref C))(hdd:∀ρ H,RepL K mg ρ H dds dvs)(hg:∀args S r,g args S=some r->gg (args++dds) S=some r){σ:St}{H:Hp}{Q:VK}(h:tE K mg (zmm c g a) σ H Q) :
   zxx C (spG K mg gg) dvs E0 (tAs K mg a) σ H Q:=by
 obtain⟨ρ,ev,S,d,S',hE,hS,hf,k⟩:=h;obtain⟨⟨ds,S1⟩,q1,hf⟩:=zy hf;obtain⟨⟨y,S2⟩,q2,hf⟩:=zy hf;dsimp only at hf;cases y with
 | non=>
   cases hf;refine⟨ρ,ev,S,ds,S1,hE,hS,q1,fun vs ρ1 H1 E1 hS1 r1=>fun x dx nx ndx ne=>?_⟩;have s0:=hS1.new (.own x) ndx;have nx':upd H1 dx (.own x) x=none:=by rw[qd (z9m ne)];exact nx
   have e0:=ji hS1 (.own x) ndx;have e1:=za7 s0 (p:=x) (.ins C dx []) nx';have s1:StOk K mg (ρ1++[x]) (upd (upd H1 dx (.own x)) x (.ins C dx [])) (S1++[.ins c []]):=s0.add nx' ⟨C,dx,[],hm,qf,rfl,RepL.nil⟩;have ro:Rep K mg (ρ1++[x]) (upd (upd H1 dx (.own x)) x (.ins C dx [])) (.obj S1.length) (.ref x):=by unfold Rep;refine⟨x,rfl,?_⟩;rw[z6y (by rw[hS1.len]<;>exact z6l _),hS1.len];simp
   refine⟨ρ1++[x],_,_,.non,_,RepL.cons ro ((r1.mono (e0.trans e1)).append (hdd _ _)),s1,hg _ _ _ q2,fun v ρ' H' E' hS' r'=>⟨r',?_⟩⟩;exact k _ ρ' H' (E1.trans ((e0.trans e1).trans E')) hS' (ro.mono E')
 |_=>cases hf
theorem zwo(mk:Mak X.prog X.w X.K X.mg X.base k c g)(hr:Room (k+1) X.A)(ha:FA X (e::es) a)(hg:Gl X c:=by rfl)(hdb:(c==("__debug__":Str))=false:=by decide)
   (he:starEach (e::es) X.env=(false,eval e X.env)::starEach es X.env:=by exact qb rfl) (hpl:(backTo pos (starEach es X.env)).any (·.1)=false:=by exact jh rfl) :
   FE X (.Call (.Name c p) (e::es) [] pos) (zmm c g a):=by
 obtain⟨C,f,fd,ps,ds,dvs,dds,gg,F,hm,M,hb,hd,hdd,hgg⟩:=mk.ex;exact qy (zvn M F hr hg hm hb hd ziz ha hdb he hpl) fun σ H Q h=>zq7 hm hdd hgg h
theorem zp6(hc:Fld X.K X.mg c n)(ho:FE X o f)(hb:attributeBase o n X.env (eval o X.env)=eval o X.env:=by rfl):FE X (.Attribute o n pos) (zuf c n f) :=
 qy (zy3 ho hb) fun σ H Q h=>by obtain⟨ρ,ev,S,d,S',hE,hS,hf,k⟩:=h;obtain⟨⟨y,S1⟩,q1,hf⟩:=zy hf;obtain⟨⟨i,fs⟩,q2,hf⟩:=zy hf;obtain⟨d',q3,hf⟩:=zav hf;cases hf;obtain⟨rfl,hi⟩:=zc8 q2;refine⟨ρ,ev,S,_,_,hE,hS,q1,fun v ρ1 H1 E1 hS1 r1=>?_⟩;obtain⟨b,C,dx,vs,rfl,hb1,hm',hb2,hb3⟩:=zfw hS1 hi r1;obtain⟨v,e1,r2⟩:=zi8 hb3 q3;exact⟨b,C,dx,vs,v,rfl,hb2,(hc C hm').1,(hc C hm').2,e1,k v ρ1 H1 E1 hS1 r2⟩
def zug(ft:Str->Option G)(f:E)(a:As):E:=fun ev S=>(f ev S).bind fun p=>match p.1 with
 | .fn x=>(ft x).bind fun g=>(a ev p.2).bind fun q=>g q.1 q.2
 |_=>none
theorem zsk{fe:Expr}{ft:Str->Option G}(hT:∀x g,ft x=some g->Cal X.prog X.w X.K X.mg X.base k x g)(hr:Room k X.A)(hf:FE X fe f)(ha:FA X (e::es) a)
   (ht:eval (.Call fe (e::es) [] pos) X.env=(eval fe X.env >>= fun v=>callWith pos v [] (backTo pos (starEach (e::es) X.env)) (backToKw pos (keywordEach [] X.env))):=by rfl)
   (he:starEach (e::es) X.env=(false,eval e X.env)::starEach es X.env:=by exact qb rfl) (hpl:(backTo pos (starEach es X.env)).any (·.1)=false:=by exact jh rfl) :
   FE X (.Call fe (e::es) [] pos) (zug ft f a):=by
 intro pins s σ H Q I h;rw[ht];obtain⟨ρ,ev,S,d,S',hE,hS,hf',kk⟩:=h;obtain⟨⟨y,S1⟩,q1,hf'⟩:=zy hf';cases y with
 | fn x=>
   dsimp only at hf';obtain⟨g,hx,hf'⟩:=zy hf';obtain⟨f0,fd,ps,ds,dvs,dds,gg,F,hm,hk,hb,hd,hdd,hgg⟩:=(hT x g hx).ex;refine z6m (thn (hf pins s σ H (fun v H1=>v=.ref f0/\zuy (spG X.K X.mg gg) dvs E0 (tAs X.K X.mg a) σ H1 Q) I ⟨ρ,ev,S,_,S1,hE,hS,q1,fun v ρ1 H1 E1 hS1 r1=>⟨?_,?_⟩⟩) fun u s1 ⟨v,H1,I1,rv,ev1,q⟩=>?_)
   · unfold Rep at r1;obtain⟨b,rfl,e1⟩:=r1;rw[hm]at e1;cases e1;rfl
   · exact zj9 (g:=g) hdd hgg ⟨ρ1,ev,S1,d,S',hE.mono E1,hS1,hf',fun v ρ' H' E' hS' r'=>kk v ρ' H' (E1.trans E') hS' r'⟩
   · subst ev1;obtain rfl:u=Value.ref f0:=rv;refine z96 (h₀:=X.base) I.ok.mod.kin hk (thn (ha pos pins s1 σ H1 _ I1 q) fun us s2 ⟨vs,H2,I2,r,q2⟩=>⟨I2.kIn,?_⟩) he hpl;exact ze4 F hr hb hd ziz I2 r q2
 |_=>cases hf'
theorem j8(h:FE X e f)(he:∀whole,isTrue e X.env whole=(do let v <-whole;standAt e.pos;holding [v] (truthy v)):=by intro _;rfl):FB X e (bE f) :=
 zdj (zym h he) fun σ H Q h=>by
   obtain⟨ρ,ev,S,b,S',hE,hS,hf,k⟩:=h;obtain⟨⟨x,S1⟩,q1,hf⟩:=zy hf;cases x with
   | bl c=>
     cases hf;exact⟨ρ,ev,S,_,_,hE,hS,q1,fun v ρ1 H1 E1 hS1 r1=>⟨b,r1,k ρ1 H1 E1 hS1⟩⟩
   |_=>cases hf
variable {b:Expr}{rest:List Expr}{u v:B}
theorem kr(h:FB X e u):FB X (.UnaryOp .Not e pos) (zbq u):=zdj (zyn h) fun σ H Q h=>by obtain⟨ρ,ev,S,b,S',hE,hS,hf,k⟩:=h;obtain⟨⟨x,S1⟩,q1,hf⟩:=zav hf;cases hf;exact⟨ρ,ev,S,_,_,hE,hS,q1,fun ρ1 H1 E1 hS1=>k ρ1 H1 E1 hS1⟩
theorem zgi(h:FB X e u):FW X (.BoolOp .And [e] pos) u:=zve h
theorem zk7(h:FB X e u):FW X (.BoolOp .Or [e] pos) u:=zyj h
theorem zk8(h:FB X e u)(hb:FW X (.BoolOp .And (b::rest) pos) v):FW X (.BoolOp .And (e::b::rest) pos) (zm6 u v):=zoc (zyl h hb) fun σ H Q h=>by
 obtain⟨ρ,ev,S,b,S',hE,hS,hf,k⟩:=h;obtain⟨⟨x,S1⟩,q1,hf⟩:=zy hf;refine⟨ρ,ev,S,x,S1,hE,hS,q1,fun ρ1 H1 E1 hS1=>?_⟩;cases x with
 |true=>exact z1u ⟨ρ1,ev,S1,b,S',hE.mono E1,hS1,hf,fun ρ2 H2 E2 hS2=>k ρ2 H2 (E1.trans E2) hS2⟩
 |false=>cases hf;exact z1v (k ρ1 H1 E1 hS1)
theorem zpu(h:FB X e u)(hb:FW X (.BoolOp .Or (b::rest) pos) v):FW X (.BoolOp .Or (e::b::rest) pos) (bOr u v):=zoc (z2r h hb) fun σ H Q h=>by
 obtain⟨ρ,ev,S,b,S',hE,hS,hf,k⟩:=h;obtain⟨⟨x,S1⟩,q1,hf⟩:=zy hf;refine⟨ρ,ev,S,x,S1,hE,hS,q1,fun ρ1 H1 E1 hS1=>?_⟩;cases x with
 |true=>cases hf;exact z1u (k ρ1 H1 E1 hS1)
 |false=>exact z1v ⟨ρ1,ev,S1,b,S',hE.mono E1,hS1,hf,fun ρ2 H2 E2 hS2=>k ρ2 H2 (E1.trans E2) hS2⟩
theorem zt7(h:FW X e u):FB X e u:=h.pt
variable {g1 g2:E}
theorem zcw{op}(h:FE X e g1):FE X (.BoolOp op [e] pos) g1:=zyz h
theorem zbs(h:FE X e g1)(hb:FE X (.BoolOp .And (b::rest) pos) g2):FE X (.BoolOp .And (e::b::rest) pos) (zfi g1 g2):=qy (zy7 h hb) fun σ H Q h=>by
 obtain⟨ρ,ev,S,d,S',hE,hS,hf,k⟩:=h;obtain⟨⟨x,S1⟩,q1,hf⟩:=zy hf;refine⟨ρ,ev,S,x,S1,hE,hS,q1,fun w ρ1 H1 E1 hS1 r1=>?_⟩;cases x with
 | bl c=>
   refine⟨c,r1,?_⟩;cases c with
   |true=>exact z1u ⟨ρ1,ev,S1,d,S',hE.mono E1,hS1,hf,fun v ρ2 H2 E2 hS2 r2=>k v ρ2 H2 (E1.trans E2) hS2 r2⟩
   |false=>cases hf;exact z1v (k _ ρ1 H1 E1 hS1 rfl)
 |_=>cases hf
theorem zp3(h:FE X e g1):FE X (.UnaryOp .Not e pos) (zxg g1):=qy (zy0 h) fun σ H Q h=>by
 obtain⟨ρ,ev,S,d,S',hE,hS,hf,k⟩:=h;obtain⟨⟨x,S1⟩,q1,hf⟩:=zy hf;obtain⟨z,q2,hf⟩:=zav hf;cases hf;refine⟨ρ,ev,S,x,_,hE,hS,q1,fun w ρ1 H1 E1 hS1 r1=>?_⟩;cases x with
 |bl c=>cases q2;exact⟨c,r1,k _ ρ1 H1 E1 hS1 rfl⟩
 |_=>cases q2
end
section
variable {X:Cx}{st:Stmt}{rest:List Stmt}{a b body:C}{e o:Expr}{f g h':E}{u:B}{pos pos':Pos}{x c n:Str}
theorem zt:FSs X [] je:=zkk zvh fun σ H D h=>by obtain⟨ρ,ev,S,o,S',hE,hS,hf,k⟩:=h;cases hf;exact k σ ρ H (Ext.refl _ _) hS hE
theorem zd(h1:FS X st a)(h2:FSs X rest b):FSs X (st::rest) (z5 a b):=zkk (zrs h1 h2) fun σ H D h=>by
 obtain⟨ρ,ev,S,o,S',hE,hS,hf,k⟩:=h;obtain⟨⟨o1,S1⟩,q1,hf⟩:=zy hf;refine⟨ρ,ev,S,o1,S1,hE,hS,q1,?_⟩;cases o1 with
 |nx e=>exact fun σ' ρ' H' E' hS' hE'=>⟨ρ',e,S1,o,S',hE',hS',hf,k.ext E'⟩
 |rt d=>cases hf;exact k
 |bk e=>cases hf;exact k
 |ct e=>cases hf;exact k
theorem zi(h1:FS X st a):FSs X [st] a:=zvg h1
theorem zp(h:FE X e f):FS X (.Return (some e) pos) (qm f):=xw (zyp h) fun σ H D h=>by obtain⟨ρ,ev,S,o,S',hE,hS,hf,k⟩:=h;obtain⟨⟨d,S1⟩,q1,hf⟩:=zav hf;cases hf;exact⟨ρ,ev,S,d,_,hE,hS,q1,k⟩
theorem zwh:FS X (.Return none pos) zyd:=xw zvi fun σ H D h=>by obtain⟨ρ,ev,S,o,S',hE,hS,hf,k⟩:=h;cases hf;exact k .non ρ H (Ext.refl _ _) hS rfl
theorem zda:FS X st zhc:=xw zru fun σ H D h=>by obtain⟨ρ,ev,S,o,S',hE,hS,hf,k⟩:=h;cases hf
theorem za5(h:FE X e f)(hs:swapsWith e none pos.line X.env=pure false:=by rfl):FS X (.Expr e pos) (zcb f):=xw (zoh h hs) fun σ H D h=>by obtain⟨ρ,ev,S,o,S',hE,hS,hf,k⟩:=h;obtain⟨⟨d,S1⟩,q1,hf⟩:=zav hf;cases hf;exact⟨ρ,ev,S,d,_,hE,hS,q1,fun v ρ1 H1 E1 hS1 r1=>k σ ρ1 H1 E1 hS1 (hE.mono E1)⟩
theorem zx(i:Nat)(h:FE X e f)(hN:X.N.Nodup)(hi:X.N[i]? = some x:=by rfl)(hx:Loc X.env.scope x:=by first | exact Or.inl rfl | exact Or.inr rfl)(hs:swapsWith e (some (.Name x pos')) pos.line X.env=pure false:=by rfl)
   (hf:X.fn x=true\/X.env.scope.names.lookup x=some .local:=by first | exact .inl rfl | exact .inr rfl | assumption):FS X (.Assign [.Name x pos'] e pos) (qp i f) :=
 xw (zyo hN hi hx h hs hf) fun σ H D h=>by obtain⟨ρ,ev,S,o,S',hE,hS,hf,k⟩:=h;obtain⟨⟨d,S1⟩,q1,hf⟩:=zav hf;cases hf;exact⟨ρ,ev,S,d,_,hE,hS,q1,fun v ρ1 H1 E1 hS1 r1=>k _ ρ1 H1 E1 hS1 ((hE.mono E1).set r1 i)⟩
theorem qg(hc:FB X e u){sa sb:List Stmt}(ha:FSs X sa a)(hb:FSs X sb b):FS X (.If e sa sb pos) (sIf u a b):=xw (z2s hc ha hb) fun σ H D h=>by
 obtain⟨ρ,ev,S,o,S',hE,hS,hf,k⟩:=h;obtain⟨⟨x,S1⟩,q1,hf⟩:=zy hf;refine⟨ρ,ev,S,x,S1,hE,hS,q1,fun ρ1 H1 E1 hS1=>?_⟩;cases x with
 |true=>exact z1u ⟨ρ1,ev,S1,o,S',hE.mono E1,hS1,hf,k.ext E1⟩
 |false=>exact z1v ⟨ρ1,ev,S1,o,S',hE.mono E1,hS1,hf,k.ext E1⟩
theorem ztq{K mg ρ H}{n:Str}{d:D}{v:V}(r:Rep K mg ρ H d v):∀{fs:List (Str×D)}{vs:List (Str×V)},zxj K mg ρ H fs vs->zxj K mg ρ H (ztr n d fs) (zeq n v vs)
 | [],vs,h=>by
   obtain⟨h1,_⟩:=h;cases vs with
   |nil=>exact⟨rfl,RepL.cons r RepL.nil⟩
   |cons _ _=>cases h1
 | (a,b)::fs,vs,h=>by
   obtain⟨h1,h2⟩:=h;cases vs with
   |nil=>cases h1
   | cons q vs=>
     obtain⟨a',b'⟩:=q;simp only[z65,z84]at h1;obtain⟨h3,h4⟩:=h1;subst h3;rw[z65,z65]at h2;unfold RepL at h2;obtain⟨u,t,e1,r1,r2⟩:=h2;cases e1;rw[show ztr n d ((a',b)::fs)=(if a'=n then (a',d)::fs else (a',b)::ztr n d fs)from rfl,show zeq n v ((a',b')::vs)=(if a'=n then (a',v)::vs else (a',b')::zeq n v vs)from rfl];by_cases hn:a'=n
     · rw[z64 hn,z64 hn];exact⟨by simp[h4],RepL.cons r r2⟩
     · rw[z7a hn,z7a hn];obtain⟨i1,i2⟩:=ztq r (fs:=fs) (vs:=vs) ⟨h4,r2⟩;exact⟨by rw[z65,z65,i1],RepL.cons r1 i2⟩
theorem zpw(hc:Fld X.K X.mg c n)(ho:FE X o f)(hv:FE X e g)(hs:swapsWith e (some (.Attribute o n pos')) pos.line X.env=pure false:=by rfl):FS X (.Assign [.Attribute o n pos'] e pos) (zl1 c n f g) :=
 xw (zyq ho hv hs) fun σ H D h=>by
   obtain⟨ρ,ev,S,o,S',hE,hS,hf,k⟩:=h;obtain⟨⟨d,S1⟩,q1,hf⟩:=zy hf;obtain⟨⟨y,S2⟩,q2,hf⟩:=zy hf;obtain⟨⟨i,fs⟩,q3,hf⟩:=zy hf;dsimp only at hf q3;split at hf
   · rename_i hl;cases hf;obtain⟨rfl,hi⟩:=zc8 q3;refine⟨ρ,ev,S,d,S1,hE,hS,q1,fun v ρ1 H1 E1 hS1 r1=>⟨ρ1,ev,S1,_,S2,hE.mono E1,hS1,q2,fun w ρ2 H2 E2 hS2 r2=>?_⟩⟩;obtain⟨b,C,dx,vs,rfl,hb1,hm',hb2,hb3⟩:=zfw hS2 hi r2;have e0:=zbz hS2 (.ins C dx (zeq n v vs)) hb1;refine⟨b,C,dx,vs,rfl,hb2,(hc C hm').1,(hc C hm').2,by have:=z8y List.length hb3.1;simp at this;omega,?_⟩;have hf2:zxj X.K X.mg ρ2 (upd H2 b (.ins C dx (zeq n v vs))) (ztr n d fs) (zeq n v vs):=ztq ((r1.mono E2).mono e0) ⟨hb3.1,hb3.2.mono e0⟩;exact k σ ρ2 _ ((E1.trans E2).trans e0) (hS2.set hb1 ⟨C,dx,_,hm',qf,hf2⟩) (((hE.mono E1).mono E2).mono e0)
   · cases hf
theorem zwi{i:Expr}(ho:FE X o f)(hi:FE X i g)(hv:FE X e h')
   (ha:∀v,assign (.Subscript o i pos') X.env v=(do
     let ov <-holding [v] (eval o X.env)
     let iv <-holding [v,ov] (eval i X.env)
     standAt pos'
     holding [v,ov,iv] (setItem ov iv v)
     release [v,ov,iv] []):=by intro _;rfl) (hs:swapsWithSole [.Subscript o i pos'] e pos.line X.env=pure false:=by rfl) (hw:swappedStores [.Subscript o i pos'] e X.env=pure none:=by rfl)
   (h1:(assignEach [.Subscript o i pos'] X.env).map (·.2)=[assign (.Subscript o i pos') X.env]:=by rfl):FS X (.Assign [.Subscript o i pos'] e pos) (zlz f g h') :=
 xw (zyr hv (zyu ho hi zrh ha) hs hw h1) fun σ H D h=>by
   obtain⟨ρ,ev,S,o,S',hE,hS,hf,k⟩:=h;obtain⟨⟨d,S1⟩,q1,hf⟩:=zy hf;obtain⟨⟨y,S2⟩,q2,hf⟩:=zy hf;obtain⟨⟨z,S3⟩,q3,hf⟩:=zy hf;cases y with
   | obj a=>
     cases z with
     | int kk=>
       dsimp only at hf;split at hf
       · rename_i ds hd;obtain⟨j,hj,hf⟩:=zav hf;cases hf;refine⟨ρ,ev,S,d,S1,hE,hS,q1,fun v ρ1 H1 E1 hS1 r1=>⟨ρ1,ev,S1,_,S2,hE.mono E1,hS1,q2,fun w ρ2 H2 E2 hS2 r2=>⟨ρ2,ev,S2,_,S3,(hE.mono E1).mono E2,hS2,q3,fun t ρ3 H3 E3 hS3 r3=>?_⟩⟩⟩;have r2':=r2.mono E3;unfold Rep at r2';obtain⟨b,rfl,hb⟩:=r2';obtain⟨vs,h2,h3⟩:=hS3.ob a _ b hd hb;have e0:=zbz hS3 (.lst (vs.set j v)) hb;refine⟨b,vs,kk,j,rfl,r3,h2,by rw[<-h3.length];exact hj,?_⟩;refine k σ ρ3 _ (((E1.trans E2).trans E3).trans e0) (hS3.set hb ⟨_,qf,?_⟩) ((((hE.mono E1).mono E2).mono E3).mono e0);exact(RepL.set ((r1.mono E2).mono E3) j h3).mono e0
       · cases hf
     |_=>cases hf
   |_=>cases hf
section
variable {K:zFr}{mg:zMg}{ρ1:List Addr}{H1:Hp}{E:Ends}{S':Sto}{o:Out}{i:Nat}
def zqz(K:zFr)(mg:zMg)(ρ1:List Addr)(H1:Hp)(i:Nat)(body:C)(o:Out)(S':Sto)(ds:List D)(σ:St)(H:Hp):Prop :=
 ∃ρ ev S,Ext ρ1 H1 ρ H/\StOk K mg ρ H S/\EnvR K mg ρ H ev σ/\za0 i body ds ev S=some (o,S')
theorem znj{d:D}{ds:List D}{x:V}{σ:St}{H:Hp}{ρ:List Addr}{ev:Ev}{S:Sto}(k:Post K mg E S' ρ1 H1 o)(e0:Ext ρ1 H1 ρ H)(hS:StOk K mg ρ H S)(hE:EnvR K mg ρ H ev σ)(r:Rep K mg ρ H d x)(hl:za0 i body (d::ds) ev S=some (o,S')) :
   tC K mg body { E with nx:=zqz K mg ρ1 H1 i body o S' ds,ct:=zqz K mg ρ1 H1 i body o S' ds,bk:=E.nx } (σ.set i (some x)) H:=by
 obtain⟨⟨o1,S3⟩,q,hl⟩:=zy hl;refine⟨ρ,ev.set i (some d),S,o1,S3,hE.set r i,hS,q,?_⟩;cases o1 with
 |nx e=>exact fun σ' ρ' H' E' hS' hE'=>⟨ρ',e,S3,e0.trans E',hS',hE',hl⟩
 |ct e=>exact fun σ' ρ' H' E' hS' hE'=>⟨ρ',e,S3,e0.trans E',hS',hE',hl⟩
 |bk e=>cases hl;exact fun σ' ρ' H' E' hS' hE'=>k σ' ρ' H' (e0.trans E') hS' hE'
 |rt y=>cases hl;exact fun v ρ' H' E' hS' r'=>k v ρ' H' (e0.trans E') hS' r'
theorem zif{σ:St}{H:Hp}(k:Post K mg E S' ρ1 H1 o)(h:zqz K mg ρ1 H1 i body o S' [] σ H):E.nx σ H:=by obtain⟨ρ,ev,S,e0,hS,hE,hl⟩:=h;cases hl;exact k σ ρ H e0 hS hE
end
theorem zje(i:Nat){l:Expr}{px:Pos}{sb:List Stmt}(hN:X.N.Nodup)(hl:FE X l f)(hb:FSs X sb body)(hp:PassesOwn (model X.prog X.w) X.A X.env X.xe)(hc:X.calm=true:=by rfl)(hi:X.N[i]? = some x:=by rfl)(hx:Loc X.env.scope x:=by first | exact Or.inl rfl | exact Or.inr rfl)
   (hf:X.fn x=true\/X.env.scope.names.lookup x=some .local:=by first | exact .inl rfl | exact .inr rfl | assumption) (hs:∀v,foldedSetIterable l X.env v=pure v:=by intro _;rfl) :
   FS X (.For (.Name x px) l sb [] pos) (zfv i f body) :=
 xw (zog hp hc (zfx hl) (zfy hN hi hx hf) hb hs) fun σ H D h=>by
   obtain⟨ρ,ev,S,o,S',hE,hS,hf,k⟩:=h;obtain⟨⟨d,S1⟩,q1,hf⟩:=zy hf;cases d with
   | lst ds=>
     refine⟨ρ,ev,S,_,S1,hE,hS,q1,fun v ρ1 H1 E1 hS1 r1=>?_⟩;unfold Rep at r1;obtain⟨p,vs,rfl,t,r⟩:=r1;have k1:=k.ext E1;refine⟨p,rfl,⟨vs,t.sq⟩,zsg (K:=X.K) (a:=p) (xs:=vs) (fun j σ' H'=>zqz X.K X.mg ρ1 H1 i body o S' (ds.drop j) σ' H') ⟨ρ1,ev,S1,Ext.refl _ _,hS1,hE.mono E1,hf⟩ (fun j σ' H' _ ⟨ρ',ev',S2,e0,_⟩=>(t.mono e0).sq) ?_ ?_⟩
     · rintro j y σ' H' hj ⟨ρ',ev',S2,e0,hS2,hE2,hl2⟩;have hjl:j<ds.length:=by rw[r.length];exact(z6o.mp hj).1
       have ed:ds.drop j=ds[j]::ds.drop (j+1):=z70 hjl;obtain⟨y',ey,ry⟩:=(r.mono e0).get (z6s hjl);rw[hj]at ey;cases ey;rw[ed]at hl2;exact znj k1 e0 hS2 hE2 ry hl2
     · intro σ' H' ha;rw[z95 (by rw[r.length];exact z6l _)]at ha;exact zif k1 ha
   |_=>cases hf
theorem zro{K mg}{ρ1:List Addr}{H1:Hp}{E:Ends}{S' S1:Sto}{o:Out}{i n:Nat}{lo:Int}{σ:St}{ev:Ev}(k:Post K mg E S' ρ1 H1 o)(hS1:StOk K mg ρ1 H1 S1)(hE:EnvR K mg ρ1 H1 ev σ)(hf:za0 i body (jc lo n) ev S1=some (o,S')) :
   ∃W:Nat->Nat->St->Hp->Prop,(∃m,W 0 m σ H1)/\∀j m σ H,W j m σ H ->
     ((Itr lo n).stop j H/\E.nx σ H)\/((Itr lo n).go j H/\∃N:St->Hp->Prop,(∀σ' H',N σ' H'->∃m',m'<m/\W (j+1) m' σ' H')/\∀x H',(Itr lo n).yld j H x H'->zpt i x σ H' fun σ2 H2=>tC K mg body { E with nx:=N,ct:=N,bk:=E.nx } σ2 H2):=by
 refine zpx (g:=zpt i) (fun j σ' H'=>zqz K mg ρ1 H1 i body o S' ((jc lo n).drop j) σ' H') ⟨ρ1,ev,S1,Ext.refl _ _,hS1,hE,hf⟩ ?_ ?_
 · rintro j σ' H' hj ⟨ρ',ev',S2,e0,hS2,hE2,hl2⟩;have hjl:j<(jc lo n).length:=by unfold jc;simpa using hj
   have ed:(jc lo n).drop j=(jc lo n)[j]::(jc lo n).drop (j+1):=z70 hjl;rw[ed]at hl2;refine znj k e0 hS2 hE2 ?_ hl2;have:(jc lo n)[j]=D.int (lo+(j:Int)):=by simp[jc]
   rw[this];exact rfl
 · intro σ' H' ha;rw[z95 (by unfold jc;simp)]at ha;exact zif k ha
theorem zpv(i:Nat){l:Expr}{px p2 p3:Pos}{sb:List Stmt}(hN:X.N.Nodup)(hm:X.mg "range"=none)(hl:FE X l f)(hb:FSs X sb body)(hp:PassesOwn (model X.prog X.w) X.A X.env X.xe)(hg:Gl X "range":=by rfl)(hc:X.calm=true:=by rfl)(hi:X.N[i]? = some x:=by rfl)(hx:Loc X.env.scope x:=by first | exact Or.inl rfl | exact Or.inr rfl)
   (hf:X.fn x=true\/X.env.scope.names.lookup x=some .local:=by first | exact .inl rfl | exact .inr rfl | assumption) (hst:starEach [l] X.env=[(false,eval l X.env)]:=by exact qb rfl) (hs:∀v,foldedSetIterable (.Call (.Name "range" p2) [l] [] p3) X.env v=pure v:=by intro _;rfl) :
   FS X (.For (.Name x px) (.Call (.Name "range" p2) [l] [] p3) sb [] pos) (zix i f body) :=
 xw (zog hp hc (zhf hg hm (zb hl ze hst) hst) (zfy hN hi hx hf) hb hs) fun σ H D h=>by
   obtain⟨ρ,ev,S,o,S',hE,hS,hf,k⟩:=h;obtain⟨⟨d,S1⟩,q1,hf⟩:=zy hf;cases d with
   | int j=>
     dsimp only at hf;split at hf
     · rename_i hj;refine⟨ρ,ev,S,[.int j],S1,hE,hS,by simp only[aC,aN,q1,Option.bind_some],fun vs ρ1 H1 E1 hS1 r1=>?_⟩;unfold RepL at r1;obtain⟨v,r,rfl,r2,r3⟩:=r1;unfold RepL at r3;subst r3;exact⟨j,by rw[show v=.int j from r2],hj.1,hj.2,zro (k.ext E1) hS1 (hE.mono E1) hf⟩
     · cases hf
   |_=>cases hf
theorem zk9(m:Nat){sb:List Stmt}(hc:FB X e u)(hb:FSs X sb body)(hp:PassesOwn (model X.prog X.w) X.A X.env X.xe):FS X (.While e sb [] pos) (zhb m u body) :=
 xw (zrt hp hc hb) fun σ H D h=>by
   obtain⟨ρ,ev,S,o,S',hE,hS,hf,k⟩:=h;refine⟨fun j σ' H'=>∃ρ' ev' S2,Ext ρ H ρ' H'/\StOk X.K X.mg ρ' H' S2/\EnvR X.K X.mg ρ' H' ev' σ'/\zap u body j ev' S2=some (o,S'),⟨m,ρ,ev,S,Ext.refl _ _,hS,hE,hf⟩,?_⟩;rintro j σ' H' ⟨ρ',ev',S2,e0,hS2,hE2,hl⟩;cases j with
   |zero=>cases hl
   | succ j=>
     obtain⟨⟨c,S3⟩,q1,hl⟩:=zy hl;refine⟨ρ',ev',S2,c,S3,hE2,hS2,q1,fun ρ3 H3 E3 hS3=>?_⟩;cases c with
     | true=>
       obtain⟨⟨o1,S4⟩,q2,hl⟩:=zy hl;refine⟨_,fun σ' H' h=>⟨j,qak j,h⟩,⟨ρ3,ev',S3,o1,S4,hE2.mono E3,hS3,q2,?_⟩⟩;cases o1 with
       |nx e=>exact fun σ4 ρ4 H4 E4 hS4 hE4=>⟨ρ4,e,S4,(e0.trans E3).trans E4,hS4,hE4,hl⟩
       |ct e=>exact fun σ4 ρ4 H4 E4 hS4 hE4=>⟨ρ4,e,S4,(e0.trans E3).trans E4,hS4,hE4,hl⟩
       |bk e=>cases hl;exact fun σ4 ρ4 H4 E4 hS4 hE4=>k σ4 ρ4 H4 ((e0.trans E3).trans E4) hS4 hE4
       |rt y=>cases hl;exact fun v ρ4 H4 E4 hS4 r4=>k v ρ4 H4 ((e0.trans E3).trans E4) hS4 r4
     |false=>cases hl;exact k σ' ρ3 H3 (e0.trans E3) hS3 (hE2.mono E3)
end
open PySem.Spec PyProof.Rows
structure FunD (K:zFr) (x qual:Str) (st:Stmt) (f:Addr) (fd:FuncData) (dV:Value):Prop where
 ex:∃(oc:Value) (od:Option Addr) (kV doc pm:Value) (an:Option Addr) (cdv ct:Value) (osl:Array (Option Value)),
   fd=PySem.W.fnOf x qual (za9 st) (j6 st) (zk st) dV kV doc pm an cdv ct/\K.lookup f=some ⟨oc,od,.func fd,osl⟩/\PySem.W.codeIn K cdv qual=true
 kp:PySem.W.keepIn K (.ref f)=true
theorem zel{N n c ds S r}(h:z9 N n c ds S=some r):ds.length=n:=by
 unfold z9 at h;split at h
 · rename_i hl;exact hl
 · cases h
theorem zjx{K mg}{c:C}{N:List Str}{n:Nat}{vs:List V}{H:Hp}{Q:VK}{E:XK}(h:spG K mg (z9 N.length n c) vs H Q E):tC K mg c { nx:=fun _ H'=>Q .non H',rt:=Q } (start N vs) H:=by
 obtain⟨ρ,ds,S,d,S',r,hS,hf,k⟩:=h;unfold z9 at hf;split at hf
 · split at hf
   · rename_i e S1 hc;cases hf;exact⟨ρ,_,S,_,_,EnvR.start r,hS,hc,fun σ' ρ' H' E' hS' _=>k .non ρ' H' E' hS' rfl⟩
   · rename_i e S1 hc;cases hf;exact⟨ρ,_,S,_,_,EnvR.start r,hS,hc,k⟩
   · cases hf
 · cases hf
theorem FunD.ok{P:Program}{w:World}{K:zFr}{mg:zMg}{base:Heap}{x qual:Str}{st:Stmt}{f:Addr}{fd:FuncData}{dV:Value}{N ps:List Str}{k:Nat}{c:C}(F:FunD K x qual st f fd dV)(S:FnScope N ps (zk st))
   (hbody:∀(cdv:Value) (A:Around) (outer:List Env) (s:Shared) (H:Hp) (E:XK),Room k (A.deeper (envOfC qual (zk st) s.heap.objs.size f cdv)) ->
     FSs (zg4 CX0 P w K mg base N qual (zk st) f cdv A outer s H E).nox (j6 st) c):FnOk P w K mg base CX0 (k+1) f fd ps (spG K mg (z9 N.length ps.length c)):=by
 obtain⟨oc,od,kV,doc,pm,an,cdv,ct,osl,rfl,lk,hcd⟩:=F.ex;refine zwm lk hcd S (fun vs H Q E h=>?_) fun A outer s H vs Q E hr hsp=>?_
 · obtain⟨ρ,ds,S,d,S',r,hS,hf,k⟩:=h;rw[<-r.length];exact zel hf
 · exact⟨_,(hbody cdv A outer s H E hr).nox,zjx hsp⟩
def zh1(cells:zLA):List (Str×NameKind)->zLA->zLA
 | [],acc=>acc
 | (n,k)::r,acc=>zh1 cells r (if k=.free then (match cells.lookup n with | some c=>(n,c)::acc | none=>acc)else acc)
theorem zde{cells:zLA}:∀{names:List (Str×NameKind)}{acc:zLA},(∀x c,acc.lookup x=some c->cells.lookup x=some c)->∀x c,(zh1 cells names acc).lookup x=some c->cells.lookup x=some c
 | [],_,h=>h
 | (n,k)::r,acc,h=>by
   unfold zh1;refine zde (names:=r) ?_;intro x c;split
   · split
     · rename_i c' e;intro q;simp only[List.lookup]at q;split at q
       · rename_i hx;cases q;rw[qap.mp hx];exact e
       · exact h x c q
     · exact h x c
   · exact h x c
theorem zlk{cells:zLA}{x:Str}:∀{names:List (Str×NameKind)}{acc:zLA},(∃c,acc.lookup x=some c)->∃c,(zh1 cells names acc).lookup x=some c
 | [],_,h=>h
 | (n,k)::r,acc,h=>by
   unfold zh1;refine zlk (names:=r) ?_;split
   · split
     · rename_i c' e;simp only[List.lookup];split
       · exact⟨_,rfl⟩
       · exact h
     · exact h
   · exact h
theorem zgq{cells:zLA}{x:Str}(hx:∃c,cells.lookup x=some c):∀{names:List (Str×NameKind)}{acc:zLA},(x,NameKind.free)∈names->∃c,(zh1 cells names acc).lookup x=some c
 | [],_,h=>by cases h
 | (n,k)::r,acc,h=>by
   unfold zh1;rcases z6n.mp h with e | h
   · cases e;refine zlk ?_;obtain⟨c,hc⟩:=hx;rw[z64 rfl,hc];exact⟨c,by simp[List.lookup]⟩
   · exact zgq hx h
theorem zci{scope:Scope}{env:Env}(h:∀p∈scope.names,p.2=NameKind.free->∃c,env.cells.lookup p.1=some c):closureFor scope env=pure (zh1 env.cells scope.names []):=by
 unfold closureFor;generalize scope.names=names at h;have key:∀(names:List (Str×NameKind)) (acc:zLA),(∀p∈names,p.2=NameKind.free->∃c,env.cells.lookup p.1=some c) ->
     (forIn names acc fun(x:Str×NameKind) (cs:zLA)=>(do
       if(x.2==NameKind.free)=true then do
         let a <-cellOf env x.1
         pure (ForInStep.yield ((x.1,a)::cs))
       else pure (ForInStep.yield cs):Sem (ForInStep (zLA))))=pure (zh1 env.cells names acc):=by
   intro names
   induction names with
   |nil=>intro acc _;rfl
   | cons p r ih=>
     intro acc h;obtain⟨n,k⟩:=p;rw[qau];unfold zh1;by_cases hk:k=.free
     · subst hk;obtain⟨c,hc⟩:=h (n,.free) z6w rfl;have hc':env.cells.lookup n=some c:=hc;simp only[beq_self_eq_true,z8f,cellOf,hc',pure_bind];exact ih _ fun q hq=>h q (z6r _ hq)
     · have hb:(k==NameKind.free)=false:=by simpa using hk
       simp only[hb,z7c,z8d,pure_bind,z7a hk];exact ih _ fun q hq=>h q (z6r _ hq)
 have:=key names [] h
 first
   | (simp only[bind_pure];exact this)
   | (rw[show(fun(x:Str×NameKind) (cs:zLA)=>_)=_ from rfl];exact this)
   |exact this
def zg3(ev:Ev)(i:Nat):Option D:=match ev[i]? with
 |some o=>o
 |none=>none
def zg2(σ:L2.St)(i:Nat):Option V:=match σ[i]? with
 |some o=>o
 |none=>none
def jx(X:Cx)(N':List Str)(scope:Scope)(s₀:Shared)(H₀:Hp)(C:Addr)(ex:List Addr):Cx :=
 { X with N:=N',s₀:=s₀,H₀:=H₀,env:=compEnvC scope (zh1 X.env.cells scope.names []) C X.env,outer:=X.stack,ex:=ex,fn:=fun _=>false,pn:=[],xe:=fun _ _=>False }
section
variable {X:Cx}{pins:zAO}{σ:L2.St}{H:Hp}{s:Shared}{scope:Scope}{x:Str}{N':List Str}{fr:List Nat}
structure CompOk (X:Cx) (scope:Scope) (x:Str) (N':List Str) (fr:List Nat):Prop where
 nd:(x::N').Nodup
 hx:scope.names.lookup x=some .local
 kind:scope.kind=.function
 frn:fr.map (fun j=>X.N[j]?)=N'.map some
 frk:∀y∈N',X.env.kindOf y=some .cell/\(relabel scope X.env).names.lookup y=some .cell
 chk:∀p∈scope.names,p.2≠.cell/\(p.2=.free->X.env.kindOf p.1=some .cell)/\(p.2=.local->scope.names.lookup p.1=some .local)
theorem x6(nd:(x::N').Nodup)(hx:scope.names.lookup x=some .local)(kind:scope.kind=.function)(frn:fr.map (fun j=>X.N[j]?)=N'.map some)
   (frk:(N'.all fun y=>X.env.kindOf y==some NameKind.cell&&(relabel scope X.env).names.lookup y==some NameKind.cell)=true)
   (chk:(scope.names.all fun p=>p.2 != NameKind.cell&&(p.2 != NameKind.free||X.env.kindOf p.1==some NameKind.cell)&&(p.2 != NameKind.local||scope.names.lookup p.1==some NameKind.local))=true):CompOk X scope x N' fr:=by
 refine⟨nd,hx,kind,frn,fun y hy=>?_,fun p hp=>?_⟩
 · have:=z7v.mp frk y hy;simpa using this
 · have:=z7v.mp chk p hp;simp only[z8e,Bool.or_eq_true,bne_iff_ne,qap]at this;exact⟨this.1.1,fun e=>this.1.2.resolve_left (fun z=>z e),fun e=>this.2.resolve_left (fun z=>z e)⟩
theorem ze8{α:Type}{x:Str}{k:α}:∀{l:List (Str×α)},l.lookup x=some k->(x,k)∈l
 | [],h=>by cases h
 | (n,a)::r,h=>by
   simp only[List.lookup]at h;split at h
   · rename_i e;cases h;rw[qap.mp e];exact z6w
   · exact z6r _ (ze8 h)
theorem CompOk.free(c:CompOk X scope x N' fr){y:Str}(h:(relabel scope X.env).names.lookup y=some .cell\/(relabel scope X.env).names.lookup y=some .free):(y,NameKind.free)∈scope.names:=by
 have go:∀k,(k=NameKind.cell\/k=.free)->(relabel scope X.env).names.lookup y=some k->(y,NameKind.free)∈scope.names:=by
   intro k hk e;have m:=ze8 e;unfold relabel at m;obtain⟨⟨n,k0⟩,hm,e2⟩:=z9k.mp m;dsimp only at e2;split at e2
   · rename_i hc;cases e2;have:k0=.free:=by rw[z8e,z8e]at hc;simpa using hc.1.1
     subst this;exact hm
   · cases e2;rcases hk with rfl | rfl
     · exact absurd rfl (c.chk _ hm).1
     · exact hm
 rcases h with h | h
 · exact go _ (.inl rfl) h
 · exact go _ (.inr rfl) h
theorem CompOk.start(c:CompOk X scope x N' fr)(I:Inv X pins σ H s){fp:List Addr}(hf:∀b∈fp,zm8 X pins H b)(hfl:∀b∈fp,b<s.heap.objs.size){C:Addr}(hC:s.heap.objs.size<=C){h1:Heap}{m:zMg}{t':Nat}(hk:∀b o,s.heap.get? b=some o->h1.get? b=some o)(hn:h1.Ns C m) :
   Inv (jx X (x::N') scope s H C fp) [] (none::fr.map (zg2 σ)) H { s with heap:=h1,toks:=t' }:=by
 have sub:∀y a,(zh1 X.env.cells scope.names []).lookup y=some a->X.env.cells.lookup y=some a:=zde (fun _ _ h=>by cases h);have hfs:∀b∈frs X.stack,H b=none:=I.stkFree;have cellt:∀y a,X.env.cells.lookup y=some a->a<s.heap.objs.size:=fun y a e=>by obtain⟨v,q⟩:=I.cell y a e;exact q.lt
 refine⟨⟨I.ok.mod,c.kind,I.ok.glob,I.ok.blt,hC,fun y z a h1 h2=>I.ok.inj y z a (sub _ _ h1) (sub _ _ h2),fun y hy=>?_,fun y a h=>?_,I.ok.hd,I.ok.frames,.inl rfl,fun b hb=>⟨z7b (z6p (hfl b hb) hC),fun y a e=>(hf b hb).2.2.2.2.1 y a (sub _ _ e)⟩,I.bs,z67 I.ok.bsz I.sz,fun b o e hb=>?_,fun b hb z=>?_,I.stack,hfs⟩,
   rfl,I.bare,Un.kept hk,⟨m,hn,fun i y v e1 e2 e3=>?_⟩,fun y a e=>?_,I.hok.fresh hC,fun y a e=>I.freeC y a (sub _ _ e),fun p hp=>absurd hp (by simp[jx]),I.hok.kept hk,?_⟩
 · exact zgq (I.ok.has y (.inl ((c.chk _ (c.free hy)).2.1 rfl))) (c.free hy)
 · cases h
 · have:=(I.bs b o e).1;have z:=hf b hb;rcases z.2.2.2.1 with z | z
   · exact I.ok.noex b o e z
   · have:=(I.ok.bs b o e).1;exact absurd (z6p (z69 this) z) (z8r _)
 · rcases z6n.mp (I.stkSub b z)with e | e
   · exact(hf b hb).2.1 e
   · exact(hf b hb).2.2.1 e
 · cases i with
   |zero=>simp at e2
   | succ i=>
     have e1:N'[i]? = some y:=by simpa [jx] using e1
     have e2:(fr.map (zg2 σ))[i]? = some (some v):=by simpa using e2
     rw[z72]at e2;cases ej:fr[i]? with
     |none=>rw[ej]at e2;cases e2
     | some j=>
       rw[ej]at e2;have e2:zg2 σ j=some v:=by simpa using e2
       have hv:σ[j]? = some (some v):=by
         unfold zg2 at e2;split at e2
         · rename_i o ho;rw[ho,e2]
         · cases e2
       have hN:X.N[j]? = some y:=by have q:=z8y (fun l=>l[i]?) c.frn;simp only[z72,ej,e1,Option.map_some,Option.some.injEq]at q;exact q
       obtain⟨k1,k2⟩:=c.frk y (z7n e1);obtain⟨mm,_,hl⟩:=I.loc;obtain⟨u,r,l⟩:=hl j y v hN hv (.inr (.inl k1));refine⟨u,r,?_⟩;rcases l with⟨k,_⟩ | ⟨_,a,ha,hcl⟩
       · rw[k1]at k;cases k
       · refine .inr ⟨.inl k2,a,?_,?_⟩
         · obtain⟨a',ha'⟩:=zgq (cells:=X.env.cells) (names:=scope.names) (acc:=[]) ⟨a,ha⟩ (c.free (.inl k2));have:=sub _ _ ha';rw[ha]at this;cases this;exact ha'
         · obtain⟨o,ho,hd⟩:=hcl;exact⟨o,hk _ _ ho,hd⟩
 · obtain⟨v,o,ho,hd⟩:=I.cell y a (sub _ _ e);exact⟨v,o,hk _ _ ho,hd⟩
 · have:=z8y List.length c.frn;simp at this;simp[jx,this]
theorem Inv.track{p:Addr}{ys:List V}{its:List Value}{n:Nat}(I:Inv X pins σ H s)(hn:H p=none)(ho:s.heap.get? p=some { cls:=.type "list",data:=.seq its.toArray n })(r:Vals ys its)(hz:ys.length<=sizeLine)
   (h1:p∈X.ex\/X.s₀.heap.objs.size<=p) (hL:p≠X.env.locals) (h2:∀x c,X.env.cells.lookup x=some c->c≠p) (h3:∀q∈X.pn++pins,q.1≠p):Inv X pins σ (upd H p (.lst ys)) s:=by
 refine I.step (g':=s.gens) (d':=s.drawn) (h':=s.heap) (t':=s.toks) (ch:=[p]) (fun b hb=>?_) (fun b o _ _ _ e _=>e) (fun b o _ _ _ e _=>⟨o.slots,e⟩) (fun b o hc e n=>?_) (fun b o _ e=>⟨o,e⟩) (fun b xs e=>?_) (fun b o u e=>?_) (fun b ps e=>⟨#[],?_⟩) (fun _ hm=>hm) (fun b u e=>?_) I.bare
 · rw[z6q.mp hb];exact⟨h1,hL,h2,h3⟩
 · rw[qd (fun z=>hc (by simp[z]))];exact n
 · rw[qd (qx e hn)];exact e
 · rw[qd (qx e hn)];exact e
 · rw[qd (qx e hn),e];simp
 · by_cases hb:b=p
   · subst hb;rw[qf]at e;cases e;exact⟨hz,its,n,r,ho⟩
   · rw[qd hb]at e;exact(I.hok b u e).stay (fun _ _ _ q=>q) (fun c q=>by rw[qd (qx q hn)];exact q) fun c xs q=>by rw[qd (qx q hn)];exact q
theorem ziw{P:Program}{w:World}{H:Hp}{h h':Heap}{c:Addr}(hok:HOk P w H h)(hs:Heap.SameBut c h h')(hn:H c=none):HOk P w H h':=fun b ob e=>by
 refine(hok b ob e).stay (fun d o hd q=>(hs.2 d ?_).trans q) (fun _ q=>q) fun _ _ q=>q;rintro rfl;rcases hd with rfl | hd
 · rw[hn]at e;cases e
 · rw[hn]at hd;cases hd
end
def IB(i:Int):Prop:=i.natAbs<2^4096
instance (i:Int):Decidable (IB i):=inferInstanceAs (Decidable (_<_))
def qh:D->D->Option D
 | .int i,.int j=>some (.int (i+j))
 | .str x,.str y=>if x.length+y.length<=sizeLine then some (.str (x++y))else none
 | .lst a,.lst b=>if a.length+b.length<=sizeLine then some (.lst (a++b))else none
 | .tup a,.tup b=>if a.length+b.length<=sizeLine then some (.tup (a++b))else none
 |_,_=>none
def opI(g:Int->Int->Option Int):D->D->Option D
 | .int i,.int j=>(g i j).map D.int
 |_,_=>none
def zr2(g:Int->Int->Bool):D->D->Option D
 | .int i,.int j=>some (.bl (g i j))
 |_,_=>none
def z1r(i j:Int):Option Int:=if(-(2^64)<i/\i<2^64)\/(-(2^64)<j/\j<2^64)\/(IB i/\IB j)then some (i*j)else none
def z3v(i j:Int):Option Int:=if 0<j/\j<1073741824 then some (i/j)else none
def z20(i j:Int):Option Int:=if 0<j then some (i%j)else none
def ztt(i j:Int):Option Int:=if 0<=j/\j<=1000000/\i.natAbs<2^64 then some (i^j.toNat)else none
def zau:D->D->Option D:=opI fun i j=>some (i-j)
def zai:D->D->Option D:=opI z1r
def zdl:D->D->Option D:=opI z3v
def qz:D->D->Option D:=opI z20
def zdk:D->D->Option D:=opI ztt
def zc4:D->D->Option D:=zr2 fun i j=>decide (i<j)
def ze7:D->D->Option D:=zr2 fun i j=>decide (i<=j)
def zii:D->D->Option D:=zr2 fun i j=>decide (j<i)
def zot:D->D->Option D:=zr2 fun i j=>decide (j<=i)
def zpi:D->Bool
 | .non=>true
 |_=>false
def zf1:D->D->Option D
 |d,.non=>some (.bl (zpi d))
 | .bl a,.bl b=>some (.bl (a==b))
 |_,_=>none
def ju:D->D->Option D
 |d,.non=>some (.bl (!zpi d))
 | .bl a,.bl b=>some (.bl (a != b))
 |_,_=>none
def qa(S:Sto):D->D->Option D
 | .lst ds,.int i=>atI ds i
 | .tup ds,.int i=>atI ds i
 | .str z,.int i=>if z.length<=sizeLine then (atI z.cps.toList i).map fun c=>.str ⟨#[c]⟩else none
 | .obj a,.int i=>(match S[a]? with
   |some (.lst ds)=>atI ds i
   |_=>none)
 |_,_=>none
section
variable {X:Cx}{K:zFr}{mg:zMg}
theorem Rep.refI{ρ H i v}(h:Rep K mg ρ H (.int i) v):v=.int i:=h
theorem Rep.refS{ρ H i v}(h:Rep K mg ρ H (.str i) v):v=.str i:=h
theorem Rep.refT{ρ H ds v}(h:Rep K mg ρ H (.tup ds) v):∃p vs,v=.ref p/\TupAt K ρ H p vs/\RepL K mg ρ H ds vs:=by unfold Rep at h;exact h
theorem Rep.refL{ρ H ds v}(h:Rep K mg ρ H (.lst ds) v):∃p vs,v=.ref p/\LstAt K ρ H p vs/\RepL K mg ρ H ds vs:=by unfold Rep at h;exact h
def zvc(K:zFr):R2:=fun x y H Q=>∃l b xs zs,x=.ref l/\y=.ref b/\SqL K H l xs/\SqL K H b zs/\xs.length+zs.length<=sizeLine/\∀p,H p=none->Q (.ref p) (upd H p (.lst (xs++zs)))
theorem op_catL:OpR X (binaryOp .Add) (zvc X.K):=by
 intro pins s σ H x y v u Q I rx ry h;obtain⟨l,b,xs,zs,rfl,rfl,hH,hB,hz,q⟩:=h;cases rx;cases ry;obtain⟨its,r,pl,_⟩:=I.list hH;obtain⟨its2,r2,pl2,_⟩:=I.list hB;obtain⟨⟨cls,dd,data,sl⟩,ho,hc,n,hd⟩:=pl.isList;obtain⟨⟨cls2,dd2,data2,sl2⟩,ho2,hc2,n2,hd2⟩:=pl2.isList;simp only at hc hd hc2 hd2;subst hc hd hc2 hd2;have e:its.toArray++its2.toArray=(its++its2).toArray:=by simp
 have h1:=r.length;have h2:=r2.length;refine qb6 ⟨_,ho,rfl⟩ ⟨_,ho2,rfl⟩ noFill_list_add seq_list_add PySem.F.slot_list_add PySem.F.entry_list_add (PySem.F.args_list_add_2 _ _) (list_addW l b its.toArray its2.toArray n n2 dd dd2 sl sl2 (by simp only[z6v];omega)) ⟨ho,ho2,?_⟩;rw[e];exact⟨.ref _,_,I.lnew (t':=s.toks) (r.append r2) (by rw[z6k];omega),rfl,q _ I.fresh⟩
def zoa(K:zFr):R2:=fun x y H Q=>∃a b ys,x=.ref a/\y=.ref b/\SqT K H a []/\SqT K H b ys/\Q (.ref b) H
theorem zko:OpR X (binaryOp .Add) (zoa X.K):=by
 intro pins s σ H x y v u Q I rx ry h;obtain⟨a,b,ys,rfl,rfl,ha,hb,q⟩:=h;cases rx;cases ry;obtain⟨its,r1,p1,_⟩:=I.tuple ha;obtain⟨its2,r2,p2,_⟩:=I.tuple hb;cases r1;obtain⟨⟨cls,dd,data,sl⟩,ho,hc,n,hd⟩:=id p1;obtain⟨⟨cls2,dd2,data2,sl2⟩,ho2,hc2,n2,hd2⟩:=id p2;simp only at hc hd hc2 hd2;subst hc hd hc2 hd2;exact qb6 ⟨_,ho,rfl⟩ ⟨_,ho2,rfl⟩ noFill_tuple_add seq_tuple_add qax qas (qaq _ _)
   (tuple_addW0 a b _ _ n n2 dd dd2 sl sl2 rfl) ⟨ho,ho2,⟨.ref b,H,I,rfl,q⟩⟩
theorem znv:zfl K mg (fun x y H Q=>rI0 (fun i j=>.int (i+j)) x y H Q\/(∃i j,x=.str i/\y=.str j/\i.length+j.length<=sizeLine/\Q (.str (i++j)) H)\/zvc K x y H Q\/zvb K x y H Q\/zoa K x y H Q) (fun _=>qh):=by
 intro ρ H S x y dx dy d Q hS rx ry e k;replace e:qh dx dy=some d:=e;unfold qh at e;split at e
 · rename_i i j;cases e;rw[rx.refI,ry.refI];exact .inl ⟨i,j,rfl,rfl,k _ H (Ext.refl _ _) hS rfl⟩
 · rename_i i j;split at e
   · rename_i hl;cases e;rw[rx.refS,ry.refS];exact .inr (.inl ⟨i,j,rfl,rfl,hl,k _ H (Ext.refl _ _) hS rfl⟩)
   · cases e
 · rename_i a b;split at e
   · rename_i hl;cases e;obtain⟨p,vs,rfl,t1,r1⟩:=rx.refL;obtain⟨q,us,rfl,t2,r2⟩:=ry.refL;refine .inr (.inr (.inl ⟨p,q,vs,us,rfl,rfl,t1.sq,t2.sq,by rw[<-r1.length,<-r2.length];exact hl,fun z hz=>?_⟩));exact k _ _ (ji hS _ hz) (hS.new _ hz) (Rep.lst (s:=hS) hz (r1.append r2))
   · cases e
 · rename_i a b;split at e
   · rename_i hl;cases e;obtain⟨p,vs,rfl,t1,r1⟩:=rx.refT;obtain⟨q,us,rfl,t2,r2⟩:=ry.refT;cases a with
     | nil=>
       have:=r1.length;cases vs with
       |nil=>exact .inr (.inr (.inr (.inr ⟨p,q,us,rfl,rfl,t1.sq,t2.sq,k _ H (Ext.refl _ _) hS ry⟩)))
       |cons _ _=>simp at this
     | cons a0 a=>
       refine .inr (.inr (.inr (.inl ⟨p,q,vs,us,rfl,rfl,t1.sq,t2.sq,?_,by rw[<-r1.length,<-r2.length];exact hl,fun z=>?_,fun z w hw=>?_⟩)))
       · intro z;have:=r1.length;subst z;simp at this
       · have:=r2.length;subst z;cases b with
         |nil=>rw[z7h]at k;exact k _ H (Ext.refl _ _) hS rx
         |cons _ _=>simp at this
       · exact k _ _ (ji hS _ hw) (hS.new _ hw) (Rep.tup (s:=hS) hw (r1.append r2))
   · cases e
 · cases e
theorem qq{a b:Expr}{f g:E}{pos:Pos}(ha:FE X a f)(hb:FE X b g):FE X (.BinOp a .Add b pos) (e2 qh f g) :=
 zd8 (op_add.or (op_add_str.or (op_catL.or (op_catT.or zko)))) znv ha hb
theorem zrf{C:Int->Int->Prop}{gV:Int->Int->Int}{g:Int->Int->Option Int}(h:∀i j z,g i j=some z->C i j/\z=gV i j):zfl K mg (rI C fun i j=>.int (gV i j)) (fun _=>opI g):=by
 intro ρ H S x y dx dy d Q hS rx ry e k;replace e:opI g dx dy=some d:=e;unfold opI at e;split at e
 · rename_i i j;obtain⟨z,e1,e⟩:=zav e;cases e;obtain⟨hc,rfl⟩:=h i j z e1;rw[rx.refI,ry.refI];exact⟨i,j,rfl,rfl,hc,k _ H (Ext.refl _ _) hS rfl⟩
 · cases e
theorem zx4{gV:Int->Int->Int}:zfl K mg (rI0 fun i j=>.int (gV i j)) (fun _=>opI fun i j=>some (gV i j)):=by
 intro ρ H S x y dx dy d Q hS rx ry e k;replace e:opI _ dx dy=some d:=e;unfold opI at e;split at e
 · rename_i i j;cases e;rw[rx.refI,ry.refI];exact⟨i,j,rfl,rfl,k _ H (Ext.refl _ _) hS rfl⟩
 · cases e
theorem zay{g:Int->Int->Bool}:zfl K mg (rI0 fun i j=>.bl (g i j)) (fun _=>zr2 g):=by
 intro ρ H S x y dx dy d Q hS rx ry e k;replace e:zr2 g dx dy=some d:=e;unfold zr2 at e;split at e
 · rename_i i j;cases e;rw[rx.refI,ry.refI];exact⟨i,j,rfl,rfl,k _ H (Ext.refl _ _) hS rfl⟩
 · cases e
variable {a b:Expr}{f g:E}{pos:Pos}
theorem zab(ha:FE X a f)(hb:FE X b g):FE X (.BinOp a .Sub b pos) (e2 zau f g):=zd8 zy8 zx4 ha hb
theorem zqr{i:Int}(h:IB i):Builtin.Int.intBits i<=2^20:=by
 unfold IB at h;unfold Builtin.Int.intBits;have:i.natAbs.log2<4096:=by
   by_cases h0:i.natAbs=0
   · rw[h0];decide
   · exact(Nat.log2_lt h0).mpr h
 split<;>omega
theorem zvt:OpR X (binaryOp .Mult) (rI (fun i j=>CMul i j\/(IB i/\IB j)) fun i j=>.int (i*j)) :=
 L2.opI fun i j _ _ _ _ _ hc q=>mul_int q (by
   rcases hc with hc | ⟨h1,h2⟩
   · exact hc.ok
   · exact IntMulOk.of_bits (zqr h1) (zqr h2))
theorem zcg(ha:FE X a f)(hb:FE X b g):FE X (.BinOp a .Mult b pos) (e2 zai f g):=zd8 zvt (zrf fun i j z e=>by
 unfold z1r at e;split at e
 · rename_i h;cases e;refine⟨?_,rfl⟩;rcases h with h | h | h
   · exact .inl (.inl h)
   · exact .inl (.inr h)
   · exact .inr h
 · cases e) ha hb
theorem zfe(ha:FE X a f)(hb:FE X b g):FE X (.BinOp a .FloorDiv b pos) (e2 zdl f g):=zd8 zvu (zrf fun i j z e=>by
 unfold z3v at e;split at e
 · rename_i h;cases e;exact⟨h,rfl⟩
 · cases e) ha hb
theorem jw(ha:FE X a f)(hb:FE X b g):FE X (.BinOp a .Mod b pos) (e2 qz f g):=zd8 zza (zrf fun i j z e=>by
 unfold z20 at e;split at e
 · rename_i h;cases e;exact⟨h,rfl⟩
 · cases e) ha hb
theorem zla(ha:FE X a f)(hb:FE X b g):FE X (.BinOp a .Pow b pos) (e2 zdk f g):=zd8 zy9 (zrf fun i j z e=>by
 unfold ztt at e;split at e
 · rename_i h;cases e;exact⟨h,rfl⟩
 · cases e) ha hb
theorem z3l(ha:FE X a f)(hb:FE X b g)(hm:behindInMarks .Lt b=false:=by exact yo _):FE X (.Compare a [.Lt] [b] pos) (e2 zc4 f g):=zhw zr1 zay ha hb hm
theorem z3n(ha:FE X a f)(hb:FE X b g)(hm:behindInMarks .LtE b=false:=by exact yo _):FE X (.Compare a [.LtE] [b] pos) (e2 ze7 f g):=zhw zl6 zay ha hb hm
theorem zji(ha:FE X a f)(hb:FE X b g)(hm:behindInMarks .Lt b=false:=by exact yo _):FB X (.Compare a [.Lt] [b] pos) (bE (e2 zc4 f g)):=zbt zr1 zay ha hb hm
theorem z3p(ha:FE X a f)(hb:FE X b g)(hm:behindInMarks .LtE b=false:=by exact yo _):FB X (.Compare a [.LtE] [b] pos) (bE (e2 ze7 f g)):=zbt zl6 zay ha hb hm
theorem zjj(ha:FE X a f)(hb:FE X b g)(hm:behindInMarks .Gt b=false:=by exact yo _):FB X (.Compare a [.Gt] [b] pos) (bE (e2 zii f g)):=zbt z2x zay ha hb hm
theorem zwu(ha:FE X a f)(hb:FE X b g)(hm:behindInMarks .GtE b=false:=by exact yo _):FB X (.Compare a [.GtE] [b] pos) (bE (e2 zot f g)):=zbt z2y zay ha hb hm
theorem zk4{ρ H d v}(h:Rep K mg ρ H d v):zpi d=decide (v=.non):=by
 cases d with
 |non=>rw[show v=.non from h];rfl
 |bl b=>rw[show v=.bl b from h];rfl
 |int b=>rw[show v=.int b from h];rfl
 |str b=>rw[show v=.str b from h];rfl
 |fn x=>unfold Rep at h;obtain⟨p,rfl,_⟩:=h;rfl
 |ty b=>rw[show v=.ty b from h];rfl
 |tup x=>obtain⟨p,_,rfl,_⟩:=h.refT;rfl
 |lst x=>obtain⟨p,_,rfl,_⟩:=h.refL;rfl
 |obj x=>unfold Rep at h;obtain⟨p,rfl,_⟩:=h;rfl
 |lam x=>unfold Rep at h;obtain⟨p,rfl,_⟩:=h;rfl
 |clo x y=>unfold Rep at h;obtain⟨p,_,rfl,_⟩:=h;rfl
theorem zzc:OpR X (compareOp .Is) (fun x y H Q=>∃i j,x=.bl i/\y=.bl j/\Q (.bl (i==j)) H):=by intro pins s σ H x y v u Q I rx ry h;obtain⟨i,j,rfl,rfl,q⟩:=h;cases rx;cases ry;exact is_bool ⟨.bl _,H,I,rfl,q⟩
theorem zos:OpR X (compareOp .IsNot) (fun x y H Q=>∃i j,x=.bl i/\y=.bl j/\Q (.bl (i != j)) H):=by intro pins s σ H x y v u Q I rx ry h;obtain⟨i,j,rfl,rfl,q⟩:=h;cases rx;cases ry;exact isnot_bool ⟨.bl _,H,I,rfl,q⟩
theorem zx3:zfl K mg (fun x y H Q=>(y=.non/\Q (.bl (decide (x=.non))) H)\/(∃i j,x=.bl i/\y=.bl j/\Q (.bl (i==j)) H)) (fun _=>zf1):=by
 intro ρ H S x y dx dy d Q hS rx ry e k;replace e:zf1 dx dy=some d:=e;unfold zf1 at e;split at e
 · cases e;rw[zk4 rx]at k;exact .inl ⟨ry,k _ H (Ext.refl _ _) hS rfl⟩
 · rename_i i j _;cases e;exact .inr ⟨_,_,rx,ry,k _ H (Ext.refl _ _) hS rfl⟩
 · cases e
theorem znt:zfl K mg (fun x y H Q=>(y=.non/\Q (.bl (!decide (x=.non))) H)\/(∃i j,x=.bl i/\y=.bl j/\Q (.bl (i != j)) H)) (fun _=>ju):=by
 intro ρ H S x y dx dy d Q hS rx ry e k;replace e:ju dx dy=some d:=e;unfold ju at e;split at e
 · cases e;rw[zk4 rx]at k;exact .inl ⟨ry,k _ H (Ext.refl _ _) hS rfl⟩
 · rename_i i j _;cases e;exact .inr ⟨_,_,rx,ry,k _ H (Ext.refl _ _) hS rfl⟩
 · cases e
theorem zd9(ha:FE X a f)(hb:FE X b g)(hm:behindInMarks .Is b=false:=by exact yo _):FB X (.Compare a [.Is] [b] pos) (bE (e2 zf1 f g)):=zbt (op_isN.or zzc) zx3 ha hb hm
theorem zbo(ha:FE X a f)(hb:FE X b g)(hm:behindInMarks .IsNot b=false:=by exact yo _):FB X (.Compare a [.IsNot] [b] pos) (bE (e2 ju f g)):=zbt (op_notN.or zos) znt ha hb hm
theorem zjz{ρ H ds vs i d}(r:RepL K mg ρ H ds vs)(h:atI ds i=some d):∃v,atI vs i=some v/\Rep K mg ρ H d v:=by unfold atI at h ⊢;rw[<-r.length];obtain⟨j,h1,h2⟩:=zy h;rw[h1];exact r.get h2
theorem zx2:zfl K mg (rIx K) qa:=by
 intro ρ H S x y dx dy d Q hS rx ry e k;unfold qa at e;split at e
 · rename_i ds i;obtain⟨p,vs,rfl,t,r⟩:=rx.refL;obtain⟨v,h1,h2⟩:=zjz r e;exact .inl ⟨p,vs,i,v,rfl,ry.refI,t.sq,h1,k _ H (Ext.refl _ _) hS h2⟩
 · rename_i ds i;obtain⟨p,vs,rfl,t,r⟩:=rx.refT;obtain⟨v,h1,h2⟩:=zjz r e;exact .inr (.inl ⟨p,vs,i,v,rfl,ry.refI,t.sq,h1,k _ H (Ext.refl _ _) hS h2⟩)
 · rename_i z i;split at e
   · rename_i hz;obtain⟨c,h1,e⟩:=zav e;cases e;exact .inr (.inr ⟨z,i,c,rx.refS,ry.refI,hz,h1,k _ H (Ext.refl _ _) hS rfl⟩)
   · cases e
 · rename_i o i;split at e
   · rename_i ds hd;unfold Rep at rx;obtain⟨p,rfl,hp⟩:=rx;obtain⟨vs,h1,r⟩:=hS.ob o _ p hd hp;obtain⟨v,h3,h2⟩:=zjz r e;exact .inl ⟨p,vs,i,v,rfl,ry.refI,SqL.of h1,h3,k _ H (Ext.refl _ _) hS h2⟩
   · cases e
 · cases e
theorem zu(ha:FE X a f)(hb:FE X b g)(hs:zqy b:=by exact fun _ _=>rfl):FE X (.Subscript a b pos) (e2s qa f g):=qy (z2v zz7 ha hb hs) fun _ _ _ h=>t2 zx2 h
end
def eqL(f:D->D->Option Bool):List D->List D->Option Bool
 |x::xs,y::ys=>(f x y).bind fun c=>(eqL f xs ys).map fun r=>c&&r
 | [],[]=>some true
 |_,_=>some false
def zd6:D->Option V
 | .non=>some .non
 | .bl b=>some (.bl b)
 | .int i=>some (.int i)
 | .str x=>some (.str x)
 |_=>none
def eqF(a b:D):Option Bool:=match zd6 a,zd6 b with
 |some x,some y=>some (eqV x y)
 |_,_=>none
def zhp:D->Bool
 | .tup _=>true
 | .lst _=>true
 |_=>false
def eqN:Nat->D->D->Option Bool
 |0,a,b=>eqF a b
 | n+1,a,b=>match a,b with
   | .tup xs,.tup ys=>eqL (eqN n) xs ys
   | .lst xs,.lst ys=>if xs.length=ys.length then eqL (eqN n) xs ys else some false
   | .tup _,.lst _=>some false
   | .lst _,.tup _=>some false
   | a,b=>if zhp a=true then (if(zd6 b).isSome=true then some false else none)
     else if zhp b=true then (if(zd6 a).isSome=true then some false else none)
     else eqF a b
theorem zdd{a b:D}{k:Bool}(h:eqF a b=some k):∃x y,zd6 a=some x/\zd6 b=some y/\k=eqV x y:=by
 unfold eqF at h;split at h
 · rename_i x y e1 e2;exact⟨x,y,e1,e2,(z7s h).symm⟩
 · cases h
section
variable {X:Cx}{pins:zAO}{σ:L2.St}{H:Hp}{s:Shared}{ρ:List Addr}{mg:zMg}
theorem xf{K}{d:D}{x v:V}(e:zd6 d=some x)(r:Rep K mg ρ H d v):v=x/\zjg x=true:=by
 cases d with
 |non=>cases e;exact⟨r,rfl⟩
 |bl b=>cases e;exact⟨r,rfl⟩
 |int i=>cases e;exact⟨r,rfl⟩
 |str i=>cases e;exact⟨r,rfl⟩
 |_=>cases e
theorem zp9{f:D->D->Option Bool}:∀{xs ys:List D}{k:Bool},eqL f xs ys=some k->xs.length≠ys.length->k=false
 | [],[],_,_,h=>absurd rfl h
 | [],_::_,_,h,_=>by cases h;rfl
 |_::_,[],_,h,_=>by cases h;rfl
 | x::xs,y::ys,k,h,n=>by obtain⟨c,_,h⟩:=zy h;obtain⟨r,h2,h⟩:=zav h;have:=zp9 h2 (fun z=>n (by simp[z]));subst this h;simp
theorem zua{f:D->D->Option Bool}:∀{xs ys:List D}{k:Bool},eqL f xs ys=some k->∀(j:Nat) (x y:D),xs[j]? = some x->ys[j]? = some y->∃c,f x y=some c
 | x::xs,y::ys,k,h,0,_,_,e1,e2=>by obtain⟨c,h1,h⟩:=zy h;simp at e1 e2;subst e1 e2;exact⟨c,h1⟩
 | x::xs,y::ys,k,h,j+1,_,_,e1,e2=>by obtain⟨c,h1,h⟩:=zy h;obtain⟨r,h2,h⟩:=zav h;exact zua h2 j _ _ (by simpa using e1) (by simpa using e2)
 | [],_,_,_,_,_,_,e1,_=>by simp at e1
 |_::_,[],_,_,_,_,_,_,e2=>by simp at e2
def zm7(f:D->D->Option Bool)(xs ys:List D)(j:Nat):Bool:=match xs[j]?,ys[j]? with
 |some x,some y=>(f x y).getD false
 |_,_=>false
theorem zjk{f:D->D->Option Bool}:∀{xs ys:List D}{k:Bool},eqL f xs ys=some k->xs.length=ys.length->k=(List.range xs.length).all (zm7 f xs ys)
 | [],[],_,h,_=>by cases h;rfl
 | x::xs,y::ys,k,h,e=>by
   obtain⟨c,h1,h⟩:=zy h;obtain⟨r,h2,h⟩:=zav h;subst h;have ih:=zjk h2 (by simpa using e);rw[List.length_cons,List.range_succ_eq_map,List.all_cons,List.all_map];have e0:zm7 f (x::xs) (y::ys) 0=c:=by simp[zm7,h1]
   have e1:((zm7 f (x::xs) (y::ys))∘Nat.succ)=zm7 f xs ys:=by funext j;simp[zm7]
   rw[e0,e1,<-ih]
 | [],_::_,_,_,e=>by simp at e
 |_::_,[],_,_,e=>by simp at e
theorem zsn{f:D->D->Option Bool}{xs ys:List D}{k:Bool}(h:eqL f xs ys=some k):k=((List.range (min xs.length ys.length)).all (zm7 f xs ys)&&xs.length==ys.length):=by
 by_cases e:xs.length=ys.length
 · rw[zjk h e,e];simp
 · rw[zp9 h e];have:(xs.length==ys.length)=false:=by simpa using e
   rw[this];simp
theorem zww:∀(n:Nat) {d1 d2:D}{v:V}{k:Bool},Inv X pins σ H s->eqN n d1 d2=some k->Rep X.K mg ρ H d1 v->Rep X.K mg ρ H d2 v->k=true:=by
 intro n
 induction n with
 | zero=>
   intro d1 d2 v k I h r1 r2;obtain⟨x,y,e1,e2,rfl⟩:=zdd h;obtain⟨rfl,f1⟩:=xf e1 r1;obtain⟨rfl,f2⟩:=xf e2 r2;cases v<;>first | (cases f1;done) | (simp[eqV];done)
 | succ n ih=>
   intro d1 d2 v k I h r1 r2;have lst:∀{xs ys:List D}{vs:List V}{k:Bool},eqL (eqN n) xs ys=some k->RepL X.K mg ρ H xs vs->RepL X.K mg ρ H ys vs->k=true:=by
     intro xs
     induction xs with
     | nil=>
       intro ys vs k h q1 q2;have l1:=q1.length;have l2:=q2.length;cases ys with
       |nil=>cases h;rfl
       |cons _ _=>rw[<-l1]at l2;simp at l2
     | cons x xs ihx=>
       intro ys vs k h q1 q2;cases ys with
       | nil=>
         have l1:=q1.length;have l2:=q2.length;rw[<-l2]at l1;simp at l1
       | cons y ys=>
         obtain⟨c,h1,h⟩:=zy h;obtain⟨r,h2,h⟩:=zav h;unfold RepL at q1 q2;obtain⟨v1,r1,rfl,a1,b1⟩:=q1;obtain⟨v2,r2,e,a2,b2⟩:=q2;cases e;rw[<-h,ih I h1 a1 a2,ihx h2 b1 b2];rfl
   unfold eqN at h;split at h
   · rename_i xs ys;obtain⟨p,vs,rfl,t1,q1⟩:=r1.refT;obtain⟨p',vs',e,t2,q2⟩:=r2.refT;cases e;have:=I.tuple_inj t1.sq t2.sq;subst this;exact lst h q1 q2
   · rename_i xs ys;obtain⟨p,vs,rfl,t1,q1⟩:=r1.refL;obtain⟨p',vs',e,t2,q2⟩:=r2.refL;cases e;have:=I.list_inj t1.sq t2.sq;subst this;rw[z64 (by rw[q1.length,q2.length])]at h;exact lst h q1 q2
   · rename_i xs ys;obtain⟨p,vs,rfl,t1,q1⟩:=r1.refT;obtain⟨p',vs',e,t2,q2⟩:=r2.refL;cases e;obtain⟨_,_,⟨o,e1,c1,_⟩,_⟩:=I.tuple t1.sq;obtain⟨_,_,⟨o',_,e2,c2,_⟩,_⟩:=I.list t2.sq;rw[e1]at e2;cases e2;rw[c1]at c2;exact absurd (Value.type.inj c2) (by decide)
   · rename_i xs ys;obtain⟨p,vs,rfl,t1,q1⟩:=r1.refL;obtain⟨p',vs',e,t2,q2⟩:=r2.refT;cases e;obtain⟨_,_,⟨o,e1,c1,_⟩,_⟩:=I.tuple t2.sq;obtain⟨_,_,⟨o',_,e2,c2,_⟩,_⟩:=I.list t1.sq;rw[e1]at e2;cases e2;rw[c1]at c2;exact absurd (Value.type.inj c2) (by decide)
   · split at h
     · rename_i hs;split at h
       · rename_i hb;obtain⟨y,ey⟩:=z85.mp hb;obtain⟨rfl,f2⟩:=xf ey r2;cases d1 with
         |tup _=>obtain⟨p,_,rfl,_⟩:=r1.refT;cases f2
         |lst _=>obtain⟨p,_,rfl,_⟩:=r1.refL;cases f2
         |_=>cases hs
       · cases h
     · split at h
       · rename_i hs;split at h
         · rename_i hb;obtain⟨y,ey⟩:=z85.mp hb;obtain⟨rfl,f2⟩:=xf ey r1;cases d2 with
           |tup _=>obtain⟨p,_,rfl,_⟩:=r2.refT;cases f2
           |lst _=>obtain⟨p,_,rfl,_⟩:=r2.refL;cases f2
           |_=>cases hs
         · cases h
       · obtain⟨x,y,e1,e2,rfl⟩:=zdd h;obtain⟨rfl,f1⟩:=xf e1 r1;obtain⟨rfl,f2⟩:=xf e2 r2;cases v<;>first | (cases f1;done) | (simp[eqV];done)
theorem zn7{A:Around}{x y:V}{u w:Value}(ru:RelV x u)(rw':RelV y w)(fx:zjg x=true)(fy:zjg y=true):SeqAt.RcAt A s u w (eqV x y):=by
 cases x with
 | non=>
   cases ru;cases y with
   |non=>cases rw';exact SeqAt.RcAt.none_none
   |bl b=>cases rw';exact SeqAt.RcAt.none_bool b
   |int b=>obtain⟨t,rfl⟩:=rw';exact SeqAt.RcAt.none_int b t
   |str b=>obtain⟨t,rfl⟩:=rw';exact SeqAt.RcAt.none_str b t
   |_=>cases fy
 | bl a=>
   cases ru;cases y with
   |non=>cases rw';exact SeqAt.RcAt.bool_none a
   |bl b=>cases rw';exact SeqAt.RcAt.bool_bool a b
   |int b=>obtain⟨t,rfl⟩:=rw';exact SeqAt.RcAt.bool_int a b t
   |str b=>obtain⟨t,rfl⟩:=rw';exact SeqAt.RcAt.bool_str a b t
   |_=>cases fy
 | int a=>
   obtain⟨t',rfl⟩:=ru;cases y with
   |non=>cases rw';exact SeqAt.RcAt.int_none a t'
   |bl b=>cases rw';exact SeqAt.RcAt.int_bool a t' b
   |int b=>obtain⟨t,rfl⟩:=rw';exact SeqAt.RcAt.int_int a t' b t
   |str b=>obtain⟨t,rfl⟩:=rw';exact SeqAt.RcAt.int_str a t' b t
   |_=>cases fy
 | str a=>
   obtain⟨t',rfl⟩:=ru;cases y with
   |non=>cases rw';exact SeqAt.RcAt.str_none a t'
   |bl b=>cases rw';exact SeqAt.RcAt.str_bool a t' b
   |int b=>obtain⟨t,rfl⟩:=rw';exact SeqAt.RcAt.str_int a t' b t
   |str b=>obtain⟨t,rfl⟩:=rw';exact SeqAt.RcAt.str_str a t' b t
   |_=>cases fy
 |_=>cases fx
theorem zhe{A:Around}{x y:V}{u w:Value}(ru:RelV x u)(rw':RelV y w)(fx:zjg x=true)(fy:zjg y=true):SeqAt.RcNeAt A s u w (!eqV x y):=by
 cases x with
 | non=>
   cases ru;cases y with
   |non=>cases rw';exact SeqAt.RcNeAt.none_none
   |bl b=>cases rw';exact SeqAt.RcNeAt.none_bool b
   |int b=>obtain⟨t,rfl⟩:=rw';exact SeqAt.RcNeAt.none_int b t
   |str b=>obtain⟨t,rfl⟩:=rw';exact SeqAt.RcNeAt.none_str b t
   |_=>cases fy
 | bl a=>
   cases ru;cases y with
   |non=>cases rw';exact SeqAt.RcNeAt.bool_none a
   |bl b=>cases rw';exact SeqAt.RcNeAt.bool_bool a b
   |int b=>obtain⟨t,rfl⟩:=rw';exact SeqAt.RcNeAt.bool_int a b t
   |str b=>obtain⟨t,rfl⟩:=rw';exact SeqAt.RcNeAt.bool_str a b t
   |_=>cases fy
 | int a=>
   obtain⟨t',rfl⟩:=ru;cases y with
   |non=>cases rw';exact SeqAt.RcNeAt.int_none a t'
   |bl b=>cases rw';exact SeqAt.RcNeAt.int_bool a t' b
   |int b=>obtain⟨t,rfl⟩:=rw';exact SeqAt.RcNeAt.int_int a t' b t
   |str b=>obtain⟨t,rfl⟩:=rw';exact SeqAt.RcNeAt.int_str a t' b t
   |_=>cases fy
 | str a=>
   obtain⟨t',rfl⟩:=ru;cases y with
   |non=>cases rw';exact SeqAt.RcNeAt.str_none a t'
   |bl b=>cases rw';exact SeqAt.RcNeAt.str_bool a t' b
   |int b=>obtain⟨t,rfl⟩:=rw';exact SeqAt.RcNeAt.str_int a t' b t
   |str b=>obtain⟨t,rfl⟩:=rw';exact SeqAt.RcNeAt.str_str a t' b t
   |_=>cases fy
 |_=>cases fx
theorem zk2{A:Around}{n:Nat}{xs ys:List D}{vs us:List V}{its its2:List Value}(hq:∀{d1 d2:D}{v w:V}{a b:Value}{k:Bool},eqN n d1 d2=some k->Rep X.K mg ρ H d1 v->Rep X.K mg ρ H d2 w->RelV v a->RelV w b->SeqAt.EqAt A s a b k){k:Bool}(h:eqL (eqN n) xs ys=some k)
   (r1:RepL X.K mg ρ H xs vs) (r2:RepL X.K mg ρ H ys us) (q1:Vals vs its) (q2:Vals us its2) :
   ∀j (h1:j<its.toArray.size) (h2:j<its2.toArray.size),SeqAt.EqAt A s its.toArray[j] its2.toArray[j] (zm7 (eqN n) xs ys j):=by
 intro j h1 h2;have l1:=r1.length;have l2:=r2.length;have l3:=q1.length;have l4:=q2.length;rw[z6v]at h1 h2;have e1:xs[j]? = some xs[j]:=z6s (by omega);have e2:ys[j]? = some ys[j]:=z6s (by omega);obtain⟨v,ev,rv⟩:=r1.get e1;obtain⟨w,ew,rw'⟩:=r2.get e2;obtain⟨a,ea,ra⟩:=q1.get ev;obtain⟨b,eb,rb⟩:=q2.get ew;obtain⟨c,hc⟩:=zua h j _ _ e1 e2;have z1:its.toArray[j]=a:=by rw[z6s h1]at ea;simpa using ea
 have z2:its2.toArray[j]=b:=by rw[z6s h2]at eb;simpa using eb
 have z3:zm7 (eqN n) xs ys j=c:=by simp[zm7,e1,e2,hc]
 rw[z1,z2,z3];exact hq hc rv rw' ra rb
theorem z0x:∀(n:Nat) {A:Around}{d1 d2:D}{v w:V}{a b:Value}{k:Bool},Inv X pins σ H s->A.units+n<cLine->eqN n d1 d2=some k->Rep X.K mg ρ H d1 v->Rep X.K mg ρ H d2 w->RelV v a->RelV w b ->
   SeqAt.RcAt A s a b k/\SeqAt.RcNeAt A s a b (!k)/\SeqAt.EqAt A s a b k:=by
 intro n
 induction n with
 | zero=>
   intro A d1 d2 v w a b k I hu h r1 r2 ra rb;obtain⟨x,y,e1,e2,rfl⟩:=zdd h;obtain⟨rfl,f1⟩:=xf e1 r1;obtain⟨rfl,f2⟩:=xf e2 r2;exact⟨zn7 ra rb f1 f2,zhe ra rb f1 f2,zub ra rb f1 f2⟩
 | succ n ih=>
   intro A d1 d2 v w a b k I hu h r1 r2 ra rb;have hs:∀{u:V},Rep X.K mg ρ H d1 u->Rep X.K mg ρ H d2 u->k=true:=fun a b=>zww (n+1) I h a b;have hin:A.in1.units+n<cLine:=by show A.units+1+n<cLine;omega
   have hu0:A.units<cLine:=by omega
   have same:∀{p q:Addr},v=.ref p->w=.ref q->SeqAt.RcAt A s (.ref p) (.ref q) k->SeqAt.EqAt A s a b k:=by
     intro p q e1 e2 rc;subst e1 e2;cases ra;cases rb;by_cases hpq:p=q
     · subst hpq;rw[hs r1 r2];exact SeqAt.EqAt.same _
     · exact SeqAt.EqAt.of_refs hpq rc
   unfold eqN at h;split at h
   · rename_i xs ys;obtain⟨p,vs,rfl,t1,q1⟩:=r1.refT;obtain⟨p',us,rfl,t2,q2⟩:=r2.refT;cases ra;cases rb;obtain⟨its,z1,pt1,_⟩:=I.tuple t1.sq;obtain⟨its2,z2,pt2,_⟩:=I.tuple t2.sq;have hit:=zk2 (A:=A.in1) (s:=s) (fun e a1 a2 a3 a4=>(ih I hin e a1 a2 a3 a4).2.2) h q1 q2 z1 z2;have l1:=q1.length;have l2:=q2.length;have l3:=z1.length;have l4:=z2.length;have ek:k=((List.range (min its.toArray.size its2.toArray.size)).all (zm7 (eqN n) xs ys)&&its.toArray.size==its2.toArray.size):=by rw[z6v,z6v,<-l3,<-l4,<-l1,<-l2];exact zsn h
     have rc:=SeqAt.RcAt.tuples (A:=A) (s:=s) pt1 pt2 hu0 hit;have rn:=SeqAt.RcNeAt.tuples (A:=A) (s:=s) pt1 pt2 hu0 hit;rw[<-ek]at rc;refine⟨rc,?_,same rfl rfl rc⟩;rw[ek];exact rn
   · rename_i xs ys;obtain⟨p,vs,rfl,t1,q1⟩:=r1.refL;obtain⟨p',us,rfl,t2,q2⟩:=r2.refL;cases ra;cases rb;obtain⟨its,z1,pt1,_⟩:=I.list t1.sq;obtain⟨its2,z2,pt2,_⟩:=I.list t2.sq;have l1:=q1.length;have l2:=q2.length;have l3:=z1.length;have l4:=z2.length;split at h
     · rename_i hl;have hit:=zk2 (A:=A.in1) (s:=s) (fun e a1 a2 a3 a4=>(ih I hin e a1 a2 a3 a4).2.2) h q1 q2 z1 z2;have hsz:its.toArray.size=its2.toArray.size:=by rw[z6v,z6v];omega
       have ek:k=(List.range its.toArray.size).all (zm7 (eqN n) xs ys):=by rw[z6v,<-l3,<-l1];exact zjk h hl
       have rc:=SeqAt.RcAt.lists (A:=A) (s:=s) pt1.isList pt2.isList hsz hu0 hit;have rn:=SeqAt.RcNeAt.lists (A:=A) (s:=s) pt1.isList pt2.isList hsz hu0 hit;rw[<-ek]at rc;refine⟨rc,?_,same rfl rfl rc⟩;rw[ek];exact rn
     · rename_i hl;cases h;have hsz:(its.toArray.size != its2.toArray.size)=true:=by rw[z6v,z6v];simp;omega
       have rc:=SeqAt.RcAt.lists_lengths (A:=A) (s:=s) pt1.isList pt2.isList hsz hu0;have rn:=SeqAt.RcNeAt.lists_lengths (A:=A) (s:=s) pt1.isList pt2.isList hsz hu0;exact⟨rc,rn,same rfl rfl rc⟩
   · rename_i xs ys;cases h;obtain⟨p,vs,rfl,t1,q1⟩:=r1.refT;obtain⟨p',us,rfl,t2,q2⟩:=r2.refL;cases ra;cases rb;obtain⟨its,z1,pt1,_⟩:=I.tuple t1.sq;obtain⟨its2,z2,pt2,_⟩:=I.list t2.sq;exact⟨SeqAt.RcAt.tuple_list pt1 pt2.isList hu0,SeqAt.RcNeAt.tuple_list pt1 pt2.isList hu0,SeqAt.EqAt.tuple_list pt1 pt2.isList hu0⟩
   · rename_i xs ys;cases h;obtain⟨p,vs,rfl,t1,q1⟩:=r1.refL;obtain⟨p',us,rfl,t2,q2⟩:=r2.refT;cases ra;cases rb;obtain⟨its,z1,pt1,_⟩:=I.list t1.sq;obtain⟨its2,z2,pt2,_⟩:=I.tuple t2.sq;exact⟨SeqAt.RcAt.list_tuple pt1.isList pt2 hu0,SeqAt.RcNeAt.list_tuple pt1.isList pt2 hu0,SeqAt.EqAt.list_tuple pt1.isList pt2 hu0⟩
   · split at h
     · rename_i hsq;split at h
       · rename_i hb;cases h;obtain⟨y,ey⟩:=z85.mp hb;obtain⟨rfl,f2⟩:=xf ey r2;cases d1 with
         | tup _=>
           obtain⟨p,vs,rfl,t1,q1⟩:=r1.refT;cases ra;obtain⟨its,z1,pt,_⟩:=I.tuple t1.sq;cases w with
           |non=>cases rb;exact⟨SeqAt.RcAt.tuple_none pt hu0,SeqAt.RcNeAt.tuple_none pt hu0,SeqAt.EqAt.tuple_none pt hu0⟩
           |bl c=>cases rb;exact⟨SeqAt.RcAt.tuple_bool c pt hu0,SeqAt.RcNeAt.tuple_bool c pt hu0,SeqAt.EqAt.tuple_bool c pt hu0⟩
           |int c=>obtain⟨t,rfl⟩:=rb;exact⟨SeqAt.RcAt.tuple_int c t pt hu0,SeqAt.RcNeAt.tuple_int c t pt hu0,SeqAt.EqAt.tuple_int c t pt hu0⟩
           |str c=>obtain⟨t,rfl⟩:=rb;exact⟨SeqAt.RcAt.tuple_str c t pt hu0,SeqAt.RcNeAt.tuple_str c t pt hu0,SeqAt.EqAt.tuple_str c t pt hu0⟩
           |_=>cases f2
         | lst _=>
           obtain⟨p,vs,rfl,t1,q1⟩:=r1.refL;cases ra;obtain⟨its,z1,pl,_⟩:=I.list t1.sq;have pt:=pl.isList;cases w with
           |non=>cases rb;exact⟨SeqAt.RcAt.list_none pt hu0,SeqAt.RcNeAt.list_none pt hu0,SeqAt.EqAt.list_none pt hu0⟩
           |bl c=>cases rb;exact⟨SeqAt.RcAt.list_bool c pt hu0,SeqAt.RcNeAt.list_bool c pt hu0,SeqAt.EqAt.list_bool c pt hu0⟩
           |int c=>obtain⟨t,rfl⟩:=rb;exact⟨SeqAt.RcAt.list_int c t pt hu0,SeqAt.RcNeAt.list_int c t pt hu0,SeqAt.EqAt.list_int c t pt hu0⟩
           |str c=>obtain⟨t,rfl⟩:=rb;exact⟨SeqAt.RcAt.list_str c t pt hu0,SeqAt.RcNeAt.list_str c t pt hu0,SeqAt.EqAt.list_str c t pt hu0⟩
           |_=>cases f2
         |_=>cases hsq
       · cases h
     · split at h
       · rename_i hsq;split at h
         · rename_i hb;cases h;obtain⟨y,ey⟩:=z85.mp hb;obtain⟨rfl,f2⟩:=xf ey r1;cases d2 with
           | tup _=>
             obtain⟨p,vs,rfl,t1,q1⟩:=r2.refT;cases rb;obtain⟨its,z1,pt,_⟩:=I.tuple t1.sq;cases v with
             |non=>cases ra;exact⟨SeqAt.RcAt.none_tuple pt hu0,SeqAt.RcNeAt.none_tuple pt hu0,SeqAt.EqAt.none_tuple pt hu0⟩
             |bl c=>cases ra;exact⟨SeqAt.RcAt.bool_tuple c pt hu0,SeqAt.RcNeAt.bool_tuple c pt hu0,SeqAt.EqAt.bool_tuple c pt hu0⟩
             |int c=>obtain⟨t,rfl⟩:=ra;exact⟨SeqAt.RcAt.int_tuple c t pt hu0,SeqAt.RcNeAt.int_tuple c t pt hu0,SeqAt.EqAt.int_tuple c t pt hu0⟩
             |str c=>obtain⟨t,rfl⟩:=ra;exact⟨SeqAt.RcAt.str_tuple c t pt hu0,SeqAt.RcNeAt.str_tuple c t pt hu0,SeqAt.EqAt.str_tuple c t pt hu0⟩
             |_=>cases f2
           | lst _=>
             obtain⟨p,vs,rfl,t1,q1⟩:=r2.refL;cases rb;obtain⟨its,z1,pl,_⟩:=I.list t1.sq;have pt:=pl.isList;cases v with
             |non=>cases ra;exact⟨SeqAt.RcAt.none_list pt hu0,SeqAt.RcNeAt.none_list pt hu0,SeqAt.EqAt.none_list pt hu0⟩
             |bl c=>cases ra;exact⟨SeqAt.RcAt.bool_list c pt hu0,SeqAt.RcNeAt.bool_list c pt hu0,SeqAt.EqAt.bool_list c pt hu0⟩
             |int c=>obtain⟨t,rfl⟩:=ra;exact⟨SeqAt.RcAt.int_list c t pt hu0,SeqAt.RcNeAt.int_list c t pt hu0,SeqAt.EqAt.int_list c t pt hu0⟩
             |str c=>obtain⟨t,rfl⟩:=ra;exact⟨SeqAt.RcAt.str_list c t pt hu0,SeqAt.RcNeAt.str_list c t pt hu0,SeqAt.EqAt.str_list c t pt hu0⟩
             |_=>cases f2
           |_=>cases hsq
         · cases h
       · obtain⟨x,y,e1,e2,rfl⟩:=zdd h;obtain⟨rfl,f1⟩:=xf e1 r1;obtain⟨rfl,f2⟩:=xf e2 r2;exact⟨zn7 ra rb f1 f2,zhe ra rb f1 f2,zub ra rb f1 f2⟩
end
def j7(a b:D):Option D:=(eqN 150 a b).map D.bl
def zi0(a b:D):Option D:=(eqN 150 a b).map fun k=>D.bl !k
section
variable {X:Cx}{a b:Expr}{f g:E}{pos:Pos}
def zyi(K:zFr)(mg:zMg)(neg:Bool):R2:=fun x y H Q=>∃(ρ:List Addr) (d1 d2:D) (k:Bool),Rep K mg ρ H d1 x/\Rep K mg ρ H d2 y/\eqN 150 d1 d2=some k/\Q (.bl (if neg then !k else k)) H
theorem ztx(hu:X.A.units+150<cLine):OpR X (compareOp .Eq) (zyi X.K X.mg false):=by intro pins s σ H x y v u Q I rx ry h;obtain⟨ρ,d1,d2,k,h1,h2,h3,q⟩:=h;exact(z0x 150 I hu h3 h1 h2 rx ry).1 _ _ _ _ ⟨.bl k,H,I,rfl,q⟩
theorem zoq(hu:X.A.units+150<cLine):OpR X (compareOp .NotEq) (zyi X.K X.mg true):=by intro pins s σ H x y v u Q I rx ry h;obtain⟨ρ,d1,d2,k,h1,h2,h3,q⟩:=h;exact(z0x 150 I hu h3 h1 h2 rx ry).2.1 _ _ _ _ ⟨.bl (!k),H,I,rfl,q⟩
theorem znu{K mg}:zfl K mg (zyi K mg false) (fun _=>j7):=by intro ρ H S x y dx dy d Q hS rx ry e k;obtain⟨c,e1,e⟩:=zav e;subst e;exact⟨ρ,dx,dy,c,rx,ry,e1,k _ H (Ext.refl _ _) hS rfl⟩
theorem ziu{K mg}:zfl K mg (zyi K mg true) (fun _=>zi0):=by intro ρ H S x y dx dy d Q hS rx ry e k;obtain⟨c,e1,e⟩:=zav e;subst e;exact⟨ρ,dx,dy,c,rx,ry,e1,k _ H (Ext.refl _ _) hS rfl⟩
theorem zhv{k:Nat}(hr:Room k X.A)(ha:FE X a f)(hb:FE X b g)(hm:behindInMarks .Eq b=false:=by exact yo _):FE X (.Compare a [.Eq] [b] pos) (e2 j7 f g):=zhw (ztx (by have:=hr.un;omega)) znu ha hb hm
theorem z3k{k:Nat}(hr:Room k X.A)(ha:FE X a f)(hb:FE X b g)(hm:behindInMarks .NotEq b=false:=by exact yo _):FE X (.Compare a [.NotEq] [b] pos) (e2 zi0 f g):=zhw (zoq (by have:=hr.un;omega)) ziu ha hb hm
theorem kt{k:Nat}(hr:Room k X.A)(ha:FE X a f)(hb:FE X b g)(hm:behindInMarks .Eq b=false:=by exact yo _):FB X (.Compare a [.Eq] [b] pos) (bE (e2 j7 f g)):=zbt (ztx (by have:=hr.un;omega)) znu ha hb hm
theorem zws{k:Nat}(hr:Room k X.A)(ha:FE X a f)(hb:FE X b g)(hm:behindInMarks .NotEq b=false:=by exact yo _):FB X (.Compare a [.NotEq] [b] pos) (bE (e2 zi0 f g)):=zbt (zoq (by have:=hr.un;omega)) ziu ha hb hm
end
def zc7(S:Sto):List D->Option D
 | [.lst ds]=>some (.int ds.length)
 | [.tup ds]=>some (.int ds.length)
 | [.str z]=>if z.length<=sizeLine then some (.int z.length)else none
 | [.obj a]=>(match S[a]? with
   |some (.lst ds)=>some (.int ds.length)
   |_=>none)
 |_=>none
def zxh(_:Sto):List D->Option D
 | [.int i]=>some (.int (if i<0 then -i else i))
 |_=>none
def zzo(_:Sto):List D->Option D
 | [.int i,.int j]=>some (.int (if j>i then j else i))
 |_=>none
inductive Ty where
 |non | bl | int | str | tup | lst
 deriving DecidableEq
def Ty.name:Ty->String
 | .non=>"NoneType" | .bl=>"bool" | .int=>"int" | .str=>"str" | .tup=>"tuple" | .lst=>"list"
def tyD(S:Sto):D->Option Ty
 | .non=>some .non
 | .bl _=>some .bl
 | .int _=>some .int
 | .str _=>some .str
 | .tup _=>some .tup
 | .lst _=>some .lst
 | .obj a=>(match S[a]? with
   |some (.lst _)=>some .lst
   |_=>none)
 |_=>none
def isT(t c:Ty):Bool:=decide (t=c)||(decide (t=.bl)&&decide (c=.int))
def tyOf?:String->Option Ty
 | "bool"=>some .bl | "int"=>some .int | "str"=>some .str | "tuple"=>some .tup | "list"=>some .lst | _=>none
def zsb(S:Sto):List D->Option D
 | [d,.ty n]=>(tyOf? n).bind fun c=>(tyD S d).map fun t=>.bl (isT t c)
 |_=>none
section
variable {X:Cx}{K:zFr}{mg:zMg}
theorem one{ρ H d xs}(r:RepL K mg ρ H [d] xs):∃v,xs=[v]/\Rep K mg ρ H d v:=by unfold RepL at r;obtain⟨v,t,rfl,h1,h2⟩:=r;unfold RepL at h2;subst h2;exact⟨v,rfl,h1⟩
theorem two{ρ H d e xs}(r:RepL K mg ρ H [d,e] xs):∃v w,xs=[v,w]/\Rep K mg ρ H d v/\Rep K mg ρ H e w:=by unfold RepL at r;obtain⟨v,t,rfl,h1,h2⟩:=r;obtain⟨w,rfl,h3⟩:=one h2;exact⟨v,w,rfl,h1,h3⟩
theorem zu7:zxi K mg (fun xs H Q=>(∃p ys,xs=[.ref p]/\(SqL K H p ys\/SqT K H p ys)/\Q (.int ys.length) H)\/(∃z,xs=[.str z]/\z.length<=sizeLine/\Q (.int z.length) H)) zc7:=by
 intro ρ H S xs ds d Q hS r e k;unfold zc7 at e;split at e
 · cases e;replace r:=one r;obtain⟨v,rfl,r⟩:=r;obtain⟨p,vs,rfl,t,r⟩:=r.refL;exact .inl ⟨p,vs,rfl,.inl t.sq,by rw[<-r.length];exact k _ H (Ext.refl _ _) hS rfl⟩
 · cases e;replace r:=one r;obtain⟨v,rfl,r⟩:=r;obtain⟨p,vs,rfl,t,r⟩:=r.refT;exact .inl ⟨p,vs,rfl,.inr t.sq,by rw[<-r.length];exact k _ H (Ext.refl _ _) hS rfl⟩
 · split at e
   · rename_i hz;cases e;replace r:=one r;obtain⟨v,rfl,r⟩:=r;rw[r.refS];exact .inr ⟨_,rfl,hz,k _ H (Ext.refl _ _) hS rfl⟩
   · cases e
 · split at e
   · rename_i ds hd;cases e;replace r:=one r;obtain⟨v,rfl,r⟩:=r;unfold Rep at r;obtain⟨p,rfl,hp⟩:=r;obtain⟨vs,h1,r⟩:=hS.ob _ _ p hd hp;exact .inl ⟨p,vs,rfl,.inl (SqL.of h1),by rw[<-r.length];exact k _ H (Ext.refl _ _) hS rfl⟩
   · cases e
 · cases e
variable {e:Expr}{es:List Expr}{p pos:Pos}{g:As}
theorem zas(hm:X.mg "len"=none)(ha:FA X [e] g)(hg:Gl X "len":=by rfl)(he:starEach [e] X.env=(false,eval e X.env)::starEach [] X.env:=by exact qb rfl)(hpl:(backTo pos (starEach [] X.env)).any (·.1)=false:=by exact jh rfl):FE X (.Call (.Name "len" p) [e] [] pos) (eA zc7 g) :=
 zlb (call_len_seq.or zh4) zu7 hm PySem.boot_len ha hg (by decide) (by decide) he hpl
theorem zu9:zxi K mg (fun xs H Q=>∃i,xs=[.int i]/\Q (.int (if i<0 then -i else i)) H) zxh:=by
 intro ρ H S xs ds d Q hS r e k;unfold zxh at e;split at e
 · cases e;replace r:=one r;obtain⟨v,rfl,r⟩:=r;rw[r.refI];exact⟨_,rfl,k _ H (Ext.refl _ _) hS rfl⟩
 · cases e
theorem zt6(hm:X.mg "abs"=none)(ha:FA X [e] g)(hg:Gl X "abs":=by rfl)(he:starEach [e] X.env=(false,eval e X.env)::starEach [] X.env:=by exact qb rfl)(hpl:(backTo pos (starEach [] X.env)).any (·.1)=false:=by exact jh rfl):FE X (.Call (.Name "abs" p) [e] [] pos) (eA zxh g) :=
 zlb zs0 zu9 hm (by with_unfolding_all rfl) ha hg (by decide) (by decide) he hpl
theorem zu5:zxi K mg (fun xs H Q=>∃i j,xs=[.int i,.int j]/\Q (.int (if j>i then j else i)) H) zzo:=by
 intro ρ H S xs ds d Q hS r e k;unfold zzo at e;split at e
 · cases e;replace r:=two r;obtain⟨v,w,rfl,r1,r2⟩:=r;rw[r1.refI,r2.refI];exact⟨_,_,rfl,k _ H (Ext.refl _ _) hS rfl⟩
 · cases e
theorem z0q(hm:X.mg "max"=none)(ha:FA X (e::es) g)(hc:X.calm=true:=by rfl)(hg:Gl X "max":=by rfl)(he:starEach (e::es) X.env=(false,eval e X.env)::starEach es X.env:=by exact qb rfl)(hpl:(backTo pos (starEach es X.env)).any (·.1)=false:=by exact jh rfl):FE X (.Call (.Name "max" p) (e::es) [] pos) (eA zzo g) :=
 zlb (zqm hc) zu5 hm (by with_unfolding_all rfl) ha hg (by decide) (by decide) he hpl
theorem zhx{x:Str}(n:String)(hm:X.mg x=none)(hv:bootBuiltins x=some (.type n))(hg:Gl X x:=by rfl)(hn:x≠"__name__":=by decide)(hd:(x==("__debug__":Str))=false:=by decide):FE X (.Name x pos) (eK (.ty n)) :=
 zbm (zvs (v:=.ty n) hg hm hv rfl hn hd) fun _ _=>rfl
theorem zpc:∀(t c:Ty),c≠.non->PySem.W.kitOne K (.type t.name) (.type c.name)=some (isT t c):=by intro t c hc;cases t<;>cases c<;>first | exact absurd rfl hc | rfl | (with_unfolding_all rfl)
theorem zng{n:String}{c:Ty}(h:tyOf? n=some c):n=c.name/\c≠.non:=by unfold tyOf? at h;split at h<;>first | (cases h;exact⟨rfl,by decide⟩) | cases h
def z4q(K:zFr):List V->Hp->VK->Prop:=fun xs H Q=>∃(x:V) (t c:Ty),xs=[x,.ty c.name]/\c≠.non /\
 (TyOf K H x (.type t.name)\/(t=.tup/\∃p ys,x=.ref p/\SqT K H p ys)\/(t=.lst/\∃p ys,x=.ref p/\SqL K H p ys))/\Q (.bl (isT t c)) H
theorem zsz:CallR X (.builtin "isinstance") (z4q X.K):=by
 intro pins s σ H xs us Q I r h;obtain⟨x,t,c,rfl,hc,ht,q⟩:=h;obtain⟨u1,u2,rfl,r1,r2⟩:∃u1 u2,us=[u1,u2]/\RelV x u1/\RelV (.ty c.name) u2:=by
   cases r with
   | cons p q=>
     cases q with
     |cons p' q'=>cases q';exact⟨_,_,rfl,p,p'⟩
 cases r2;rcases ht with ht | ⟨rfl,p,ys,rfl,hp⟩ | ⟨rfl,p,ys,rfl,hp⟩
 · exact zph I r1 ht (zpc t c hc) fun tk=>⟨.bl _,H,I.tok tk,rfl,q⟩
 · cases r1;obtain⟨its,_,⟨o,h1,h2,_⟩,_⟩:=I.tuple hp;exact z79 PySem.W.kitx_tuple I.kIn ⟨o,h1,h2⟩ (zpc .tup c hc) (fun z=>nomatch z) fun tk=>⟨.bl _,H,I.tok tk,rfl,q⟩
 · cases r1;obtain⟨its,_,⟨o,n,h1,h2,_,_⟩,_⟩:=I.list hp;exact z79 qbv I.kIn ⟨o,h1,h2⟩ (zpc .lst c hc) (fun z=>nomatch z) fun tk=>⟨.bl _,H,I.tok tk,rfl,q⟩
theorem zu8:zxi K mg (z4q K) zsb:=by
 intro ρ H S xs ds d Q hS r e k;unfold zsb at e;split at e
 · rename_i d' n;obtain⟨c,hc,e⟩:=zy e;obtain⟨t,ht,e⟩:=zav e;subst e;obtain⟨rfl,hn⟩:=zng hc;replace r:=two r;obtain⟨v,w,rfl,r1,r2⟩:=r;have r2:w=.ty _:=r2;subst r2;refine⟨v,t,c,rfl,hn,?_,k _ H (Ext.refl _ _) hS rfl⟩;unfold tyD at ht;split at ht
   · cases ht;rw[show v=.non from r1];exact .inl .non
   · cases ht;rw[show v=.bl _ from r1];exact .inl (.bl _)
   · cases ht;rw[show v=.int _ from r1];exact .inl (.int _)
   · cases ht;rw[show v=.str _ from r1];exact .inl (.str _)
   · cases ht;obtain⟨p,vs,rfl,tt,_⟩:=r1.refT;exact .inr (.inl ⟨rfl,p,vs,rfl,tt.sq⟩)
   · cases ht;obtain⟨p,vs,rfl,tt,_⟩:=r1.refL;exact .inr (.inr ⟨rfl,p,vs,rfl,tt.sq⟩)
   · split at ht
     · rename_i ds hd;cases ht;unfold Rep at r1;obtain⟨p,rfl,hp⟩:=r1;obtain⟨vs,h1,_⟩:=hS.ob _ _ p hd hp;exact .inr (.inr ⟨rfl,p,vs,rfl,SqL.of h1⟩)
     · cases ht
   · cases ht
 · cases e
theorem zhu(hm:X.mg "isinstance"=none)(ha:FA X (e::es) g)(hg:Gl X "isinstance":=by rfl)(he:starEach (e::es) X.env=(false,eval e X.env)::starEach es X.env:=by exact qb rfl)(hpl:(backTo pos (starEach es X.env)).any (·.1)=false:=by exact jh rfl):FE X (.Call (.Name "isinstance" p) (e::es) [] pos) (eA zsb g) :=
 zlb zsz zu8 hm (by with_unfolding_all rfl) ha hg (by decide) (by decide) he hpl
def z08(xs:List D)(lo hi:Option Int):List D:=(xs.drop (HT.sIx xs.length 0 lo)).take (HT.sIx xs.length xs.length hi-HT.sIx xs.length 0 lo)
def zzd:D->Option Int->Option Int->Option D
 | .lst ds,lo,hi=>some (.lst (z08 ds lo hi))
 | .tup ds,lo,hi=>if HT.sIx ds.length 0 lo=0/\HT.sIx ds.length ds.length hi=ds.length then none else some (.tup (z08 ds lo hi))
 |_,_,_=>none
abbrev Pt:=Ev->Sto->Option (Option Int×Sto)
def pN:Pt:=fun _ S=>some (none,S)
def pE(f:E):Pt:=fun ev S=>(f ev S).bind fun p=>match p.1 with
 | .int i=>some (some i,p.2)
 |_=>none
def eSl(f:E)(a b:Pt):E:=fun ev S=>(f ev S).bind fun p=>(a ev p.2).bind fun q=>(b ev q.2).bind fun r=>(zzd p.1 q.1 r.1).map fun d=>(d,r.2)
def tPt(K:zFr)(mg:zMg)(f:Pt):TO:=fun σ H Q=>∃ρ ev S o S',EnvR K mg ρ H ev σ/\StOk K mg ρ H S/\f ev S=some (o,S')/\∀ρ' H',Ext ρ H ρ' H'->StOk K mg ρ' H' S'->Q o H'
def FPt(X:Cx)(e:Option Expr)(f:Pt):Prop:=PO X e (tPt X.K X.mg f)
theorem zoj{e:Option Expr}{t t':TO}(h:PO X e t)(m:∀σ H Q,t' σ H Q->t σ H Q):PO X e t':=fun pins s σ H Q I q=>h pins s σ H Q I (m _ _ _ q)
theorem zcr:FPt X none pN:=zoj zvl fun σ H Q h=>by obtain⟨ρ,ev,S,o,S',hE,hS,hf,k⟩:=h;cases hf;exact k ρ H (Ext.refl _ _) hS
theorem yz{f:E}(h:FE X e f):FPt X (some e) (pE f):=zoj (zvk h) fun σ H Q h=>by
 obtain⟨ρ,ev,S,o,S',hE,hS,hf,k⟩:=h;obtain⟨⟨x,S1⟩,q1,hf⟩:=zy hf;cases x with
 | int i=>
   cases hf;exact⟨ρ,ev,S,_,_,hE,hS,q1,fun v ρ1 H1 E1 hS1 r1=>⟨i,r1,k ρ1 H1 E1 hS1⟩⟩
 |_=>cases hf
theorem zqh{ρ H ds vs}(r:RepL K mg ρ H ds vs)(lo hi:Option Int):RepL K mg ρ H (z08 ds lo hi) (zuh vs lo hi):=by unfold z08 zuh;rw[r.length];exact(r.drop _).take _
theorem zbl{a:Expr}{lo hi:Option Expr}{f:E}{u w:Pt}{p2:Pos}(ha:FE X a f)(hl:FPt X lo u)(hh:FPt X hi w):FE X (.Subscript a (.Slice lo hi none p2) pos) (eSl f u w) :=
 qy (zkn (sl_list.or zx5) ha hl hh) fun σ H Q h=>by
   obtain⟨ρ,ev,S,d,S',hE,hS,hf,k⟩:=h;obtain⟨⟨x,S1⟩,q1,hf⟩:=zy hf;obtain⟨⟨lo,S2⟩,q2,hf⟩:=zy hf;obtain⟨⟨hi,S3⟩,q3,hf⟩:=zy hf;obtain⟨z,q4,hf⟩:=zav hf;cases hf;refine⟨ρ,ev,S,x,S1,hE,hS,q1,fun v ρ1 H1 E1 hS1 r1=>⟨ρ1,ev,S1,lo,S2,hE.mono E1,hS1,q2,fun ρ2 H2 E2 hS2=>⟨ρ2,ev,S2,hi,_,(hE.mono E1).mono E2,hS2,q3,fun ρ3 H3 E3 hS3=>?_⟩⟩⟩;have r3:=(r1.mono E2).mono E3;have E:=(E1.trans E2).trans E3;cases x with
   | lst ds=>
     cases q4;obtain⟨p,vs,rfl,t,r⟩:=r3.refL;exact .inl ⟨p,vs,rfl,t.sq,fun b hb=>k _ _ _ (E.trans (ji hS3 _ hb)) (hS3.new _ hb) (Rep.lst (s:=hS3) hb (zqh r lo hi))⟩
   | tup ds=>
     replace q4:(if HT.sIx ds.length 0 lo=0/\HT.sIx ds.length ds.length hi=ds.length then none else some (D.tup (z08 ds lo hi)))=some d:=q4;split at q4
     · cases q4
     · rename_i hn;cases q4;obtain⟨p,vs,rfl,t,r⟩:=r3.refT;exact .inr ⟨p,vs,rfl,t.sq,by rw[<-r.length];exact hn,fun b hb=>k _ _ _ (E.trans (ji hS3 _ hb)) (hS3.new _ hb) (Rep.tup (s:=hS3) hb (zqh r lo hi))⟩
   |_=>cases q4
theorem zaa{o:Expr}{f h:E}{apos spos:Pos}(ho:FE X o f)(hv:FE X e h)
   (hbase:attributeBase o "append" X.env (eval o X.env)=eval o X.env:=by rfl)
   (hfew:((backTo pos (starEach [e] X.env)).all (fun x=>!x.1)&&(backToKw pos (keywordEach [] X.env)).all (fun x=>x.1.isSome)
     && decide ([e].length+([]:List Keyword).length+(if([]:List Keyword).isEmpty then 0 else 1)<30))=true:=by rfl)
   (hline:(apos.endLine==pos.line)=true:=by rfl) (hs:starEach [e] X.env=(false,eval e X.env)::starEach [] X.env:=by exact qb rfl) (hplain:(backTo pos (starEach [] X.env)).any (·.1)=false:=by exact jh rfl)
   (hsw:swapsWith (.Call (.Attribute o "append" apos) [e] [] pos) none spos.line X.env=pure false:=by rfl) :
   FS X (.Expr (.Call (.Attribute o "append" apos) [e] [] pos) spos) (xg f h) :=
 xw (zoh (zy6 qav PySem.F.slot_list_append PySem.F.type_list_append zo4 ho (zb hv ze hs) hbase hfew hline hs hplain) hsw) fun σ H D h=>by
   obtain⟨ρ,ev,S,o,S',hE,hS,hf,k⟩:=h;obtain⟨⟨x,S1⟩,q1,hf⟩:=zy hf;cases x with
   | obj a=>
     dsimp only at hf;split at hf
     · rename_i ds0 hd0;obtain⟨⟨y,S2⟩,q2,hf⟩:=zy hf;dsimp only at hf;split at hf
       · rename_i ds hd;split at hf
         · rename_i hl;cases hf;refine⟨ρ,ev,S,_,S1,hE,hS,q1,fun v ρ1 H1 E1 hS1 r1=>?_⟩;have r1':=r1;unfold Rep at r1';obtain⟨p,rfl,hp⟩:=r1';obtain⟨us0,hu0,_⟩:=hS1.ob a _ p hd0 hp;refine⟨.inl ⟨rfl,_,SqL.of hu0⟩,ρ1,ev,S1,[y],S2,hE.mono E1,hS1,by simp only[aC,aN,q2,Option.bind_some],fun vs ρ2 H2 E2 hS2 r2=>?_⟩;obtain⟨w,rfl,r3⟩:=one r2;have hp2:=E2.pre _ _ hp;obtain⟨us,h2,h3⟩:=hS2.ob a _ p hd hp2;have e0:=zbz hS2 (.lst (us++[w])) hp2;refine⟨p,us,w,rfl,rfl,h2,by rw[<-h3.length];exact hl,?_⟩;refine k σ ρ2 _ ((E1.trans E2).trans e0) (hS2.set hp2 ⟨_,qf,?_⟩) (((hE.mono E1).mono E2).mono e0);exact(h3.append (RepL.cons r3 RepL.nil)).mono e0
         · cases hf
       · cases hf
     · cases hf
   |_=>cases hf
theorem zh9:bootBuiltins "list"=some (.type "list"):=by with_unfolding_all rfl
theorem boot_tuple:bootBuiltins "tuple"=some (.type "tuple"):=by with_unfolding_all rfl
theorem boot_int:bootBuiltins "int"=some (.type "int"):=by with_unfolding_all rfl
theorem boot_bool:bootBuiltins "bool"=some (.type "bool"):=by with_unfolding_all rfl
end
def z36(K:zFr)(dV:Value):Nat->Prop
 |0=>dV=.none
 |n+1=>∃(T:Addr) (o:Obj) (m:Nat),dV=.ref T/\K.lookup T=some o/\o.data=.seq (Array.replicate (n+1) Value.none) m
structure HasDef (K:zFr) (mg:zMg) (x:Str) (st:Stmt) (nd:Nat):Prop where
 ex:∃(f:Addr) (fd:FuncData) (dV:Value),FunD K x x st f fd dV/\mg x=some (.ref f)/\z36 K dV nd
structure HasMth (K:zFr) (mg:zMg) (c m qual:Str) (st:Stmt):Prop where
 ex:∃(C f:Addr) (fd:FuncData),FunD K m qual st f fd .none/\mg c=some (.ref C)/\Cls K C/\Meth K C m f
structure HasMk (K:zFr) (mg:zMg) (c qual:Str) (st:Stmt) (nd:Nat):Prop where
 ex:∃(C f:Addr) (fd:FuncData) (dV:Value),FunD K "__init__" qual st f fd dV/\mg c=some (.ref C)/\Mk K C f/\z36 K dV nd
def zxk(x qual:Str)(st:Stmt)(ps:List Str):Prop:=∀(kV doc pm:Value) (an:Option Addr) (cdv ct:Value) (us:List Value),us.length=ps.length ->
 bindArgs (PySem.W.fnOf x qual (za9 st) (j6 st) (zk st) .none kV doc pm an cdv ct) ⟨us,[]⟩=pure (ps.zip us)
def z17(x qual:Str)(st:Stmt)(ps:List Str)(n:Nat):Prop:=∀(T:Addr) (kV doc pm:Value) (an:Option Addr) (cdv ct:Value) (us:List Value),us.length=n ->
 ∃kk,bindArgs (PySem.W.fnOf x qual (za9 st) (j6 st) (zk st) (.ref T) kV doc pm an cdv ct) ⟨us,[]⟩=(seqItems? (.ref T) >>= kk)/\kk (some #[Value.none])=pure (ps.zip (us++List.replicate (ps.length-n) Value.none))
section
variable {P:Program}{w:World}{K:zFr}{mg:zMg}{base:Heap}{x qual c m:Str}{st:Stmt}{N ps:List Str}{k:Nat}{b:C}{dV:Value}{f:Addr}{fd:FuncData}
abbrev z16(P:Program)(w:World)(K:zFr)(mg:zMg)(base:Heap)(N:List Str)(qual:Str)(st:Stmt)(k:Nat)(b:C):Prop :=
 ∀(f:Addr) (cdv:Value) (A:Around) (outer:List Env) (s:Shared) (H:Hp) (E:XK),Room k (A.deeper (envOfC qual (zk st) s.heap.objs.size f cdv)) ->
     FSs (zg4 CX0 P w K mg base N qual (zk st) f cdv A outer s H E).nox (j6 st) b
theorem FunD.binds0(F:FunD K x qual st f fd .none)(h:zxk x qual st ps):Binds K fd ps []:=by obtain⟨oc,od,kV,doc,pm,an,cdv,ct,osl,rfl,lk,hcd⟩:=F.ex;exact .all (h kV doc pm an cdv ct)
theorem FunD.binds1(F:FunD K x qual st f fd dV)(hd:z36 K dV 1){n:Nat}(h:z17 x qual st ps n)(hn:n<=ps.length):Binds K fd ps (List.replicate (ps.length-n) Value.none):=by obtain⟨oc,od,kV,doc,pm,an,cdv,ct,osl,rfl,lk,hcd⟩:=F.ex;obtain⟨T,o,mm,rfl,hT,ho⟩:=hd;intro s us hK hl;obtain⟨kk,h1,h2⟩:=h T kV doc pm an cdv ct us (by rw[z6k,List.length_replicate]at hl;omega);exact BindsTo.of_defaults rfl (hK T o hT) ho h1 h2
theorem zpz:FnOk P w K mg base CX0 k f fd ps (spG K mg fun _ _=>none):=by
 have no:∀vs H Q E,¬ spG K mg (fun _ _=>none) vs H Q E:=fun vs H Q E h=>by obtain⟨_,_,_,_,_,_,_,h,_⟩:=h;cases h
 exact⟨fun vs H Q E h=>absurd h (no vs H Q E),fun A outer s H args us vs Q E _ _ _ _ h=>absurd h (no vs H Q E)⟩
theorem HasDef.cal(h:HasDef K mg x st 0)(S:FnScope N ps (zk st))(hb:zxk x x st ps)(hbody:z16 P w K mg base N x st k b):Cal P w K mg base (k+1) x (z9 N.length ps.length b):=by obtain⟨f,fd,dV,F,hm,rfl⟩:=h.ex;exact⟨f,fd,ps,[],[],[],_,F.ok S fun cdv A outer s H E hr=>hbody f cdv A outer s H E hr,hm,F.kp,F.binds0 hb,.nil,fun _ _=>RepL.nil,fun args S r e=>by rw[z7h];exact e⟩
theorem HasDef.none0(h:HasDef K mg x st 0)(hb:zxk x x st ps):Cal P w K mg base k x (fun _ _=>none):=by obtain⟨f,fd,dV,F,hm,rfl⟩:=h.ex;exact⟨f,fd,ps,[],[],[],_,zpz,hm,F.kp,F.binds0 hb,.nil,fun _ _=>RepL.nil,fun args S r e=>by cases e⟩
theorem HasDef.cal1(h:HasDef K mg x st 1)(S:FnScope N ps (zk st))(hb:z17 x x st ps ps.length)(hbody:z16 P w K mg base N x st k b):Cal P w K mg base (k+1) x (z9 N.length ps.length b):=by obtain⟨f,fd,dV,F,hm,hd⟩:=h.ex;have B:=F.binds1 hd hb (z6l _);rw[z9v]at B;exact⟨f,fd,ps,[],[],[],_,F.ok S fun cdv A outer s H E hr=>hbody f cdv A outer s H E hr,hm,F.kp,B,.nil,fun _ _=>RepL.nil,fun args S r e=>by rw[z7h];exact e⟩
theorem HasDef.none1(h:HasDef K mg x st 1)(hb:z17 x x st ps ps.length):Cal P w K mg base k x (fun _ _=>none):=by obtain⟨f,fd,dV,F,hm,hd⟩:=h.ex;have B:=F.binds1 hd hb (z6l _);rw[z9v]at B;exact⟨f,fd,ps,[],[],[],_,zpz,hm,F.kp,B,.nil,fun _ _=>RepL.nil,fun args S r e=>by cases e⟩
theorem HasMth.mth(h:HasMth K mg c m qual st)(S:FnScope N ps (zk st))(hb:zxk m qual st ps)(hbody:z16 P w K mg base N qual st k b):Mth P w K mg base (k+1) c m (z9 N.length ps.length b):=by obtain⟨C,f,fd,F,hm,hc,hme⟩:=h.ex;exact⟨C,f,fd,ps,[],[],[],_,F.ok S fun cdv A outer s H E hr=>hbody f cdv A outer s H E hr,hm,hc,hme,F.binds0 hb,.nil,fun _ _=>RepL.nil,fun args S r e=>by rw[z7h];exact e⟩
theorem HasMk.mk1(h:HasMk K mg c qual st 1)(S:FnScope N ps (zk st))(hb:z17 "__init__" qual st ps ps.length)(hbody:z16 P w K mg base N qual st k b):Mak P w K mg base (k+1) c (z9 N.length ps.length b):=by obtain⟨C,f,fd,dV,F,hm,hme,hd⟩:=h.ex;have B:=F.binds1 hd hb (z6l _);rw[z9v]at B;exact⟨C,f,fd,ps,[],[],[],_,F.ok S fun cdv A outer s H E hr=>hbody f cdv A outer s H E hr,hm,hme,B,.nil,fun _ _=>RepL.nil,fun args S r e=>by rw[z7h];exact e⟩
end
section
variable {K:zFr}{h:Heap}{mg:zMg} (X:K.In h) (G:h.Ns mainGlobals mg)
include X G
theorem has_def{x:Str}{st:Stmt}{f:Addr}{oc:Value}{od an:Option Addr}{osl:Array (Option Value)}{kV doc pm cdv ct:Value}(a:PySem.W.nsIn K mainGlobals x=some (some (.ref f)))
   (l:K.lookup f=some ⟨oc,od,.func (PySem.W.fnOf x x (za9 st) (j6 st) (zk st) .none kV doc pm an cdv ct),osl⟩) (c:PySem.W.codeIn K cdv x=true) (k:PySem.W.keepIn K (.ref f)=true):HasDef K mg x st 0 :=
 ⟨f,_,.none,⟨⟨oc,od,kV,doc,pm,an,cdv,ct,osl,rfl,l,c⟩,k⟩,qae X G a,rfl⟩
theorem has_def1{x:Str}{st:Stmt}{f T:Addr}{oc tc:Value}{od an td:Option Addr}{osl tsl:Array (Option Value)}{kV doc pm cdv ct:Value}{m:Nat}(a:PySem.W.nsIn K mainGlobals x=some (some (.ref f)))
   (l:K.lookup f=some ⟨oc,od,.func (PySem.W.fnOf x x (za9 st) (j6 st) (zk st) (.ref T) kV doc pm an cdv ct),osl⟩) (c:PySem.W.codeIn K cdv x=true) (k:PySem.W.keepIn K (.ref f)=true)
   (t:K.lookup T=some ⟨tc,td,.seq #[Value.none] m,tsl⟩):HasDef K mg x st 1 :=
 ⟨f,_,.ref T,⟨⟨oc,od,kV,doc,pm,an,cdv,ct,osl,rfl,l,c⟩,k⟩,qae X G a,T,_,m,rfl,t,rfl⟩
theorem has_mth{cn m qual:Str}{st:Stmt}{C f:Addr}{oc:Value}{od an:Option Addr}{osl:Array (Option Value)}{kV doc pm cdv ct:Value}(aC:PySem.W.nsIn K mainGlobals cn=some (some (.ref C)))(hc:Cls K C)
   (a:PySem.W.findIn K (.ref C) m=some (some (.ref f))) (i:PySem.W.isFn K (.ref f)=true)
   (l:K.lookup f=some ⟨oc,od,.func (PySem.W.fnOf m qual (za9 st) (j6 st) (zk st) .none kV doc pm an cdv ct),osl⟩) (c:PySem.W.codeIn K cdv qual=true) (k:PySem.W.keepIn K (.ref f)=true):HasMth K mg cn m qual st :=
 ⟨C,f,_,⟨⟨oc,od,kV,doc,pm,an,cdv,ct,osl,rfl,l,c⟩,k⟩,qae X G aC,hc,⟨a,i,k⟩⟩
theorem has_mk1{cn qual:Str}{st:Stmt}{C f T:Addr}{oc tc:Value}{od an td:Option Addr}{osl tsl:Array (Option Value)}{kV doc pm cdv ct:Value}{m:Nat}(aC:PySem.W.nsIn K mainGlobals cn=some (some (.ref C)))
   (mk:PySem.W.makesIn K C=true) (kc:PySem.W.keepIn K (.ref C)=true) (a:PySem.W.findIn K (.ref C) "__init__"=some (some (.ref f))) (i:PySem.W.isFn K (.ref f)=true)
   (l:K.lookup f=some ⟨oc,od,.func (PySem.W.fnOf "__init__" qual (za9 st) (j6 st) (zk st) (.ref T) kV doc pm an cdv ct),osl⟩) (c:PySem.W.codeIn K cdv qual=true) (k:PySem.W.keepIn K (.ref f)=true)
   (t:K.lookup T=some ⟨tc,td,.seq #[Value.none] m,tsl⟩):HasMk K mg cn qual st 1 :=
 ⟨C,f,_,.ref T,⟨⟨oc,od,kV,doc,pm,an,cdv,ct,osl,rfl,l,c⟩,k⟩,qae X G aC,⟨mk,a,i,kc⟩,T,_,m,rfl,t,rfl⟩
theorem has_cls{cn:Str}{C:Addr}(aC:PySem.W.nsIn K mainGlobals cn=some (some (.ref C)))(pg:PySem.W.plainGet K C Str.empty=true)(hd:PySem.W.hasDictIn K C=true)(po:PySem.W.plainOver K C=true)(sa:PySem.W.findIn K (.ref C) "__setattr__"=some (some (.builtin "object.__setattr__"))):Cls K C:=⟨pg,hd,po,sa⟩
theorem has_fld{cn n:Str}{C:Addr}(aC:PySem.W.nsIn K mainGlobals cn=some (some (.ref C)))(hc:Cls K C)(a:PySem.W.findIn K (.ref C) n=some none):Fld K mg cn n:=fun C' e=>by rw[qae X G aC]at e;cases e;exact⟨hc,a⟩
theorem has_int{x:Str}{n:Int}{t:Tok}(a:PySem.W.nsIn K mainGlobals x=some (some (.int n t))):∃t,mg x=some (.int n t):=⟨t,qae X G a⟩
end
theorem zkh{K mg ρ H}:∀ns:List Int,RepL K mg ρ H (ns.map D.int) (ns.map V.int)
 | []=>RepL.nil
 |_::ns=>RepL.cons rfl (zkh ns)
def zhy(op op':D->D->Option D)(f g h:E):E:=fun ev S=>(f ev S).bind fun p=>(g ev p.2).bind fun q=>(op p.1 q.1).bind fun z=>match z with
 | .bl true=>(h ev q.2).bind fun r=>(op' q.1 r.1).map fun d=>(d,r.2)
 | .bl false=>some (.bl false,q.2)
 |_=>none
theorem ls1{P:List Value->Prop}(h:∀a0,P [a0])(us:List Value)(hl:us.length=1):P us:=match us,hl with
 | [a0],_=>h a0
theorem ls2{P:List Value->Prop}(h:∀a0 a1,P [a0,a1])(us:List Value)(hl:us.length=2):P us:=match us,hl with
 | [a0,a1],_=>h a0 a1
theorem ls3{P:List Value->Prop}(h:∀a0 a1 a2,P [a0,a1,a2])(us:List Value)(hl:us.length=3):P us:=match us,hl with
 | [a0,a1,a2],_=>h a0 a1 a2
theorem ls4{P:List Value->Prop}(h:∀a0 a1 a2 a3,P [a0,a1,a2,a3])(us:List Value)(hl:us.length=4):P us:=match us,hl with
 | [a0,a1,a2,a3],_=>h a0 a1 a2 a3
theorem ls5{P:List Value->Prop}(h:∀a0 a1 a2 a3 a4,P [a0,a1,a2,a3,a4])(us:List Value)(hl:us.length=5):P us:=match us,hl with
 | [a0,a1,a2,a3,a4],_=>h a0 a1 a2 a3 a4
def zlf(g:As):E:=fun ev S=>(g ev S).bind fun q=>match q.1 with
 | [.tup ds]=>some (.lst ds,q.2)
 | [.lst ds]=>some (.lst ds,q.2)
 |_=>none
def zgn(op op' op2:D->D->Option D)(f g h i:E):E:=fun ev S=>(f ev S).bind fun p=>(g ev p.2).bind fun q=>(op p.1 q.1).bind fun z=>match z with
 | .bl true=>(h ev q.2).bind fun r=>(op' q.1 r.1).bind fun z=>(match z with
   | .bl true=>(i ev r.2).bind fun t=>(op2 r.1 t.1).map fun d=>(d,t.2)
   | .bl false=>some (.bl false,r.2)
   |_=>none)
 | .bl false=>some (.bl false,q.2)
 |_=>none
section
variable {X:Cx}{e:Expr}{es:List Expr}{f:E}{g:As}{p pos:Pos}
theorem zsj(hm:X.mg "list"=none)(ha:FA X (e::es) g)(hg:Gl X "list":=by rfl)(he:starEach (e::es) X.env=(false,eval e X.env)::starEach es X.env:=by exact qb rfl)(hpl:(backTo pos (starEach es X.env)).any (·.1)=false:=by exact jh rfl):FE X (.Call (.Name "list" p) (e::es) [] pos) (zlf g) :=
 qy (zom zh3 hg hm zh9 ha (by decide) (by decide) he hpl) fun σ H Q h=>by
   obtain⟨ρ,ev,S,d,S',hE,hS,hf,k⟩:=h;obtain⟨⟨x,S1⟩,q1,hf⟩:=zy hf;refine⟨ρ,ev,S,x,S1,hE,hS,q1,fun vs ρ1 H1 E1 hS1 r1=>?_⟩;have fin:∀{us:List V}{ds:List D},RepL X.K X.mg ρ1 H1 ds us->(d,S')=(D.lst ds,S1)->∀l,H1 l=none->Q (.ref l) (upd H1 l (.lst us)):=by intro us ds r e l hl;cases e;exact k _ ρ1 _ (E1.trans (ji hS1 _ hl)) (hS1.new _ hl) (Rep.lst (s:=hS1) hl r)
   dsimp only at hf;split at hf
   · obtain⟨v,rfl,r⟩:=one r1;obtain⟨b,us,rfl,t,r⟩:=r.refT;exact⟨b,us,rfl,.inr t.sq,fin r (z7s hf).symm⟩
   · obtain⟨v,rfl,r⟩:=one r1;obtain⟨b,us,rfl,t,r⟩:=r.refL;exact⟨b,us,rfl,.inl t.sq,fin r (z7s hf).symm⟩
   · cases hf
theorem zuv{R R':R2}{op op':D->D->Option D}{f g h:E}{σ:L2.St}{H:Hp}{Q:VK}(hs:zfl X.K X.mg R fun _=>op)(hs':zfl X.K X.mg R' fun _=>op')(h0:tE X.K X.mg (zhy op op' f g h) σ H Q):zth R R' (tE X.K X.mg f) (tE X.K X.mg g) (tE X.K X.mg h) σ H Q:=by
 obtain⟨ρ,ev,S,d,S',hE,hS,hf,k⟩:=h0;obtain⟨⟨x,S1⟩,q1,hf⟩:=zy hf;obtain⟨⟨y,S2⟩,q2,hf⟩:=zy hf;obtain⟨z,q3,hf⟩:=zy hf;refine⟨ρ,ev,S,x,S1,hE,hS,q1,fun v ρ1 H1 E1 hS1 r1=>⟨ρ1,ev,S1,y,S2,hE.mono E1,hS1,q2,fun u ρ2 H2 E2 hS2 r2=>?_⟩⟩;refine hs ρ2 H2 _ v u x y z _ hS2 (r1.mono E2) r2 q3 fun w H3 E3 hS3 r3=>?_;dsimp only at hf;split at hf
 · obtain⟨⟨t,S4⟩,q4,hf⟩:=zy hf;obtain⟨dd,q5,hf⟩:=zav hf;cases hf;refine⟨true,r3,ρ2,ev,S2,t,S4,((hE.mono E1).mono E2).mono E3,hS3,q4,fun tv ρ4 H4 E4 hS4 r4=>?_⟩;exact hs' ρ4 H4 _ u tv y t _ _ hS4 ((r2.mono E3).mono E4) r4 q5 fun w' H5 E5 hS5 r5=>k w' ρ4 H5 ((((E1.trans E2).trans E3).trans E4).trans E5) hS5 r5
 · cases hf;exact⟨false,r3,k _ ρ2 H3 ((E1.trans E2).trans E3) hS3 rfl⟩
 · cases hf
theorem zwt{a b c:Expr}{f g h:E}{pos:Pos}(ha:FE X a f)(hb:FE X b g)(hc:FE X c h)(hm:lastMarks [.LtE,.Lt] [b,c]=false:=by with_unfolding_all rfl):FB X (.Compare a [.LtE,.Lt] [b,c] pos) (bE (zhy ze7 zc4 f g h)) :=
 zdj (zrr zl6 zr1 ha hb hc hm) fun _ _ _ h=>zus (fun _ h=>zuv zay zay h) h
def zux(r r' r2:R2)(ta tb tc td:TE):TE:=fun σ H Q=>ta σ H fun x H1=>tb σ H1 fun y H2=>r x y H2 fun z H3=>∃k,z=.bl k /\
 (if k=true then tc σ H3 fun w H4=>r' y w H4 fun z' H5=>∃k',z'=.bl k'/\(if k'=true then td σ H5 fun u H6=>r2 w u H6 Q else Q (.bl false) H5)else Q (.bl false) H3)
theorem zof{a b c d:Expr}{ta tb tc td:TE}{op op' op2:CmpOp}{r r' r3:R2}(ho:OpR X (compareOp op) r)(ho':OpR X (compareOp op') r')(ho2:OpR X (compareOp op2) r3)(ha:PE X a ta)(hb:PE X b tb)(hc:PE X c tc)(hd:PE X d td)
   (hm:lastMarks [op,op',op2] [b,c,d]=false:=by with_unfolding_all rfl):PT X (.Compare a [op,op',op2] [b,c,d] pos) (zq9 (zux r r' r3 ta tb tc td)):=by
 intro pins s σ H Q I h;refine isTrue_chain (thn (ha pins s σ H _ I h) fun v s1 ⟨x,H1,I1,r1,q1⟩=>test_link (thn (hb pins s1 σ H1 _ I1 q1) fun u s2 ⟨y,H2,I2,r2,q2⟩=>
   thn (ho pins s2 σ H2 x y v u _ I2 r1 r2 q2) fun d s3 ⟨z,H3,I3,r3,k,e,q3⟩=>?_)) hm
 subst e;cases r3;refine z8a ?_;cases k with
 | false=>
   obtain⟨k',e',q'⟩:=q3;cases e';exact ite_ff ⟨H3,I3,q'⟩
 | true=>
   refine ite_tt (test_link (thn (hc pins s3 σ H3 _ I3 q3) fun w' s4 ⟨z',H4,I4,r4,q4⟩=>thn (ho' pins s4 σ H4 y z' u w' _ I4 r2 r4 q4) fun d' s5 ⟨z2,H5,I5,r5,k2,e2,q5⟩=>?_));subst e2;cases r5;refine z8a ?_;cases k2 with
   | false=>
     obtain⟨k',e',q'⟩:=q5;cases e';exact ite_ff ⟨H5,I5,q'⟩
   | true=>
     refine ite_tt (test_last (thn (hd pins s5 σ H5 _ I5 q5) fun w2 s6 ⟨z6,H6,I6,r6,q6⟩=>thn (ho2 pins s6 σ H6 z' z6 w' w2 _ I6 r4 r6 q6) fun d6 s7 ⟨z7,H7,I7,r7,k7,e7,q7⟩=>?_));subst e7;cases r7;exact z8a ⟨H7,I7,q7⟩
theorem zp7{a b c d:Expr}{f g h i:E}{pos:Pos}(ha:FE X a f)(hb:FE X b g)(hc:FE X c h)(hd:FE X d i)(hm:lastMarks [.LtE,.LtE,.LtE] [b,c,d]=false:=by with_unfolding_all rfl):FB X (.Compare a [.LtE,.LtE,.LtE] [b,c,d] pos) (bE (zgn ze7 ze7 ze7 f g h i)) :=
 zdj (zof zl6 zl6 zl6 ha hb hc hd hm) fun σ H Q h=>zus (fun Q h0=>by
   obtain⟨ρ,ev,S,d,S',hE,hS,hf,k⟩:=h0;obtain⟨⟨x,S1⟩,q1,hf⟩:=zy hf;obtain⟨⟨y,S2⟩,q2,hf⟩:=zy hf;obtain⟨z,q3,hf⟩:=zy hf;refine⟨ρ,ev,S,x,S1,hE,hS,q1,fun v ρ1 H1 E1 hS1 r1=>⟨ρ1,ev,S1,y,S2,hE.mono E1,hS1,q2,fun u ρ2 H2 E2 hS2 r2=>?_⟩⟩;refine zay ρ2 H2 _ v u x y z _ hS2 (r1.mono E2) r2 q3 fun w H3 E3 hS3 r3=>?_;dsimp only at hf;split at hf
   · obtain⟨⟨t,S4⟩,q4,hf⟩:=zy hf;obtain⟨dd,q5,hf⟩:=zy hf;refine⟨true,r3,ρ2,ev,S2,t,S4,((hE.mono E1).mono E2).mono E3,hS3,q4,fun tv ρ4 H4 E4 hS4 r4=>?_⟩;refine zay ρ4 H4 _ u tv y t _ _ hS4 ((r2.mono E3).mono E4) r4 q5 fun w' H5 E5 hS5 r5=>?_;split at hf
     · obtain⟨⟨t6,S6⟩,q6,hf⟩:=zy hf;obtain⟨d7,q7,hf⟩:=zav hf;cases hf;refine⟨true,r5,ρ4,ev,S4,t6,S6,((((hE.mono E1).mono E2).mono E3).mono E4).mono E5,hS5,q6,fun tv6 ρ6 H6 E6 hS6 r6=>?_⟩;exact zay ρ6 H6 _ tv tv6 t t6 _ _ hS6 ((r4.mono E5).mono E6) r6 q7 fun w7 H7 E7 hS7 r7=>k w7 ρ6 H7 ((((((E1.trans E2).trans E3).trans E4).trans E5).trans E6).trans E7) hS7 r7
     · cases hf;exact⟨false,r5,k _ ρ4 H5 ((((E1.trans E2).trans E3).trans E4).trans E5) hS5 rfl⟩
     · cases hf
   · cases hf;exact⟨false,r3,k _ ρ2 H3 ((E1.trans E2).trans E3) hS3 rfl⟩
   · cases hf) h
end
mutual
def bnd(n:Nat):D->Bool
 | .obj i=>decide (i<n)
 | .tup ds=>bndL n ds
 | .lst ds=>bndL n ds
 | .clo _ ds=>bndL n ds
 |_=>true
def bndL(n:Nat):List D->Bool
 | []=>true
 |d::ds=>bnd n d&&bndL n ds
end
def zm2(n:Nat):MO->Bool
 | .lst ds=>bndL n ds
 | .ins _ fs=>bndL n (fs.map (·.2))
 | .dct kvs=>bndL n (kvs.map (·.2))
 | .exc _=>true
 | .tab _ _=>true
def frz(g:G):G:=fun ds S=>(g ds S).bind fun r=>if(r.2.take S.length).all (zm2 S.length)=true then (match r.1 with
 | .obj i=>if i<S.length then some (.obj i,r.2.take S.length)else (match r.2[i]? with
   |some (.lst us)=>if bndL S.length us=true then some (.lst us,r.2.take S.length)else none
   |_=>none)
 |d=>if bnd S.length d=true then some (d,r.2.take S.length)else none)else none
section
variable {K:zFr}{mg:zMg}{ρ ρ':List Addr}{H H':Hp}{S S1:Sto}{n:Nat}
theorem TupAt.cut{p:Addr}{vs:List V}(h:TupAt K ρ H p vs):TupAt K (ρ.take n) H p vs:=h.imp (fun⟨a,b⟩=>⟨fun z=>a (z7l z),b⟩) id
theorem LstAt.cut{p:Addr}{vs:List V}(h:LstAt K ρ H p vs):LstAt K (ρ.take n) H p vs:=h.imp (fun⟨a,b⟩=>⟨fun z=>a (z7l z),b⟩) id
theorem Cells.cut:∀{xs:List Str}{us:List V}{cl:zLA},Cells ρ H xs us cl->Cells (ρ.take n) H xs us cl
 | [],[],[],_=>trivial
 |x::xs,u::us,p::cl,h=>⟨h.1,fun z=>h.2.1 (z7l z),h.2.2.1,Cells.cut h.2.2.2⟩
 | [],[],_::_,h=>h.elim
 | [],_::_,_,h=>h.elim
 |_::_,[],_,h=>h.elim
 |_::_,_::_,[],h=>h.elim
mutual
theorem Rep.cut:∀{d:D}{v:V},bnd n d=true->Rep K mg ρ H d v->Rep K mg (ρ.take n) H d v
 | .non,_,_,h=>h
 | .bl _,_,_,h=>h
 | .int _,_,_,h=>h
 | .str _,_,_,h=>h
 | .fn _,_,_,h=>h
 | .ty _,_,_,h=>h
 | .tup ds,_,hb,h=>by unfold Rep at h ⊢;unfold bnd at hb;obtain⟨p,vs,e1,t,r⟩:=h;exact⟨p,vs,e1,t.cut,RepL.cut hb r⟩
 | .lst ds,_,hb,h=>by unfold Rep at h ⊢;unfold bnd at hb;obtain⟨p,vs,e1,t,r⟩:=h;exact⟨p,vs,e1,t.cut,RepL.cut hb r⟩
 | .obj i,_,hb,h=>by unfold Rep at h ⊢;unfold bnd at hb;obtain⟨a,e1,e2⟩:=h;exact⟨a,e1,by rw[z9p (z9r hb)];exact e2⟩
 | .lam t,_,_,h=>by unfold Rep at h ⊢;obtain⟨a,e1,n1,c,pm,ct,n2,h1,h2⟩:=h;exact⟨a,e1,fun z=>n1 (z7l z),c,pm,ct,fun z=>n2 (z7l z),h1,h2⟩
 | .clo t vs,_,hb,h=>by unfold Rep at h ⊢;unfold bnd at hb;obtain⟨a,us,e1,⟨n1,c,pm,ct,cl,n2,h1,h2,h3,h4⟩,r⟩:=h;exact⟨a,us,e1,⟨fun z=>n1 (z7l z),c,pm,ct,cl,fun z=>n2 (z7l z),h1,h2,h3,h4.cut⟩,RepL.cut hb r⟩
theorem RepL.cut:∀{ds:List D}{vs:List V},bndL n ds=true->RepL K mg ρ H ds vs->RepL K mg (ρ.take n) H ds vs
 | [],_,_,h=>h
 | d::ds,_,hb,h=>by unfold RepL at h ⊢;unfold bndL at hb;obtain⟨v,r,e,h1,h2⟩:=h;obtain⟨b1,b2⟩:=Bool.and_eq_true_iff.mp hb;exact⟨v,r,e,Rep.cut b1 h1,RepL.cut b2 h2⟩
end
theorem MOk.cut{a:Addr}{m:MO}(hb:zm2 n m=true)(h:MOk K mg ρ H a m):MOk K mg (ρ.take n) H a m:=by
 cases m with
 |lst ds=>obtain⟨vs,h1,h2⟩:=h;exact⟨vs,h1,h2.cut hb⟩
 |ins c fs=>obtain⟨C,dx,vs,h0,h1,h2,h3⟩:=h;exact⟨C,dx,vs,h0,h1,h2,h3.cut hb⟩
 |dct kvs=>obtain⟨vs,h1,h2,h3⟩:=h;exact⟨vs,h1,h2,h3.cut hb⟩
 |exc c=>exact h
 |tab x q=>obtain⟨h0,ps,h1,h2,h3⟩:=h;exact⟨h0,ps,h1,h2,fun pos cv z=>let⟨c,z1,z2,z3⟩:=h3 pos cv z;⟨c,z1,fun y=>z2 (z7l y),z3⟩⟩
theorem StOk.cut(hS:StOk K mg ρ H S)(hb:(S.take n).all (zm2 n)=true):StOk K mg (ρ.take n) H (S.take n):=by
 refine⟨by rw[z7e,z7e,hS.len],hS.nd.sublist (qa0 _ _),fun i m a e1 e2=>?_⟩;have hi:i<n:=by have:=(z6o.mp e1).1;rw[z7e]at this;omega
 have hm:m∈S.take n:=z7n e1;rw[z9p hi]at e1 e2;exact(hS.ob i m a e1 e2).cut (z7v.mp hb m hm)
theorem Ext.cut(e:Ext ρ H ρ' H')(hn:ρ.length=n):Ext ρ H (ρ'.take n) H' :=
 ⟨fun i a h=>by rw[z9p (by rw[<-hn];exact(z6o.mp h).1)];exact e.pre i a h,e.keep,fun b hb=>e.new b (z7l hb)⟩
theorem z0m{g:G}(vs:List V)(H:Hp)(Q:VK)(E:XK)(h:spG K mg (frz g) vs H Q E):spG K mg g vs H Q E:=by
 obtain⟨ρ,ds,S,d,S',hr,hS,hf,k⟩:=h;obtain⟨⟨d1,S1⟩,q1,hf⟩:=zy hf;refine⟨ρ,ds,S,d1,S1,hr,hS,q1,fun v ρ' H' E1 hS1 r1=>?_⟩;dsimp only at hf;split at hf
 · rename_i hb;have e0:=E1.cut hS.len;have s0:=hS1.cut hb;split at hf
   · rename_i i;split at hf
     · rename_i hi;cases hf;exact k v _ H' e0 s0 (r1.cut (by unfold bnd;exact z68 hi))
     · rename_i hi;split at hf
       · rename_i us eu;split at hf
         · rename_i hu;cases hf;unfold Rep at r1;obtain⟨a,rfl,ea⟩:=r1;obtain⟨ws,m1,m2⟩:=hS1.ob i _ a eu ea;refine k _ _ H' e0 s0 ?_;unfold Rep;refine⟨a,ws,rfl,.inl ⟨fun z=>?_,.inl m1⟩,m2.cut hu⟩;obtain⟨j,hj,ej⟩:=z7i z;rw[z7e]at hj;rw[z9c]at ej;have hj2:j<ρ'.length:=by omega
           have e3:ρ'[j]? = ρ'[i]?:=by rw[ea,z6s hj2,ej]
           have:=(List.getElem?_inj hj2 hS1.nd).mp e3;omega
         · cases hf
       · cases hf
   · split at hf
     · rename_i hd;cases hf;exact k v _ H' e0 s0 (r1.cut hd)
     · cases hf
 · cases hf
end
theorem Cal.frz{P:Program}{w:World}{K:zFr}{mg:zMg}{base:Heap}{k:Nat}{x:Str}{g:G}(c:Cal P w K mg base k x g):Cal P w K mg base k x (frz g):=by obtain⟨f,fd,ps,ds,dvs,dds,gg,FF,hm,hk,hb,hd,hdd,hg⟩:=c.ex;refine⟨f,fd,ps,ds,dvs,dds,_root_.F.frz gg,FnOk.imp FF z0m,hm,hk,hb,hd,hdd,fun args S r e=>?_⟩;obtain⟨r0,q,e⟩:=zy e;show(gg (args++dds) S).bind _=_;rw[hg args S r0 q];exact e
end F
namespace F
open PySem L2 PySem.Spec PyProof.Rows
def zo9(is:List Nat)(body:C):List D->Ev->Sto->Option (Out×Sto)
 | [],ev,S=>some (.nx ev,S)
 | d::ds,ev,S=>match d with
   | .tup us=>(ztn ev is us).bind fun e1=>(body e1 S).bind fun p=>(match p.1 with
     | .nx e=>zo9 is body ds e p.2
     | .ct e=>zo9 is body ds e p.2
     | .bk e=>some (.nx e,p.2)
     | .rt x=>some (.rt x,p.2))
   |_=>none
def z4k(is:List Nat)(f:E)(body:C):C:=fun ev S=>(f ev S).bind fun p=>match p.1 with
 | .lst ds=>zo9 is body ds ev p.2
 |_=>none
def zhh(S:Sto):D->D->Option D
 | .obj a,.lst bs=>(match S[a]? with
   |some (.lst as)=>if as.length+bs.length<=sizeLine then some (.lst (as++bs))else none
   |_=>none)
 |x,y=>qh x y
section
variable {K:zFr}{mg:zMg}{ρ1:List Addr}{H1:Hp}{is:List Nat}{body:C}{X:Cx}
theorem zre:zfl K mg (fun x y H Q=>rI0 (fun i j=>.int (i+j)) x y H Q\/(∃i j,x=.str i/\y=.str j/\i.length+j.length<=sizeLine/\Q (.str (i++j)) H)\/zvc K x y H Q\/zvb K x y H Q\/zoa K x y H Q) zhh:=by
 intro ρ H S x y dx dy d Q hS rx ry e k;unfold zhh at e;split at e
 · split at e
   · rename_i a bs _ as ea;split at e
     · rename_i hl;cases e;unfold Rep at rx;obtain⟨p,rfl,hp⟩:=rx;obtain⟨vs,m1,m2⟩:=hS.ob a _ p ea hp;obtain⟨q,us,rfl,t2,r2⟩:=ry.refL;refine .inr (.inr (.inl ⟨p,q,vs,us,rfl,rfl,SqL.of m1,t2.sq,by rw[<-m2.length,<-r2.length];exact hl,fun z hz=>?_⟩));exact k _ _ (ji hS _ hz) (hS.new _ hz) (Rep.lst (s:=hS) hz (m2.append r2))
     · cases e
   · cases e
 · exact znv ρ H S x y dx dy d Q hS rx ry e k
theorem zwr{a b:Expr}{f g:E}{pos:Pos}(ha:FE X a f)(hb:FE X b g):FE X (.BinOp a .Add b pos) (e2s zhh f g) :=
 zd8 (op_add.or (op_add_str.or (op_catL.or (op_catT.or zko)))) zre ha hb
end
def zef(c:B)(g:E)(fr:Ev):List D->Sto->Option (List D×Sto)
 | [],S=>some ([],S)
 |d::ds,S=>(c (some d::fr) S).bind fun p=>if p.1=true then (g (some d::fr) p.2).bind fun q=>(zef c g fr ds q.2).bind fun r=>some (q.1::r.1,r.2)else zef c g fr ds p.2
def zqt:B:=fun _ S=>some (true,S)
inductive FT (X:Cx):List Expr->B->Prop
 |nil:FT X [] zqt
 |one {e:Expr}{u:B}:FB X e u->FT X [e] u
section
variable {X:Cx}{pins:zAO}{σ:L2.St}{H:Hp}{s:Shared}{scope:Scope}{x:Str}{N':List Str}{fr:List Nat}
theorem z0i{ifs:List Expr}{c:B}(h:FT X ifs c){Q:Bool->Hp->Prop}(I:Inv X pins σ H s)(t:tB X.K X.mg c σ H Q) :
   wpAny (model X.prog X.w) X.A (forIn ifs true fun c r=>if r=true then do let ok <-isTrue c X.env (eval c X.env);pure (ForInStep.yield ok)else pure (ForInStep.yield r)) (TP X pins σ Q) X.xe s:=by
 cases h with
 | nil=>
   obtain⟨ρ,ev,S,b,S',hE,hS,hf,k⟩:=t;cases hf;exact wpAny_tests_nil ⟨H,I,k ρ H (Ext.refl _ _) hS⟩
 |one h=>exact wpAny_tests_one (h pins s σ H Q I t)
end
def zcv(kvs:List (Int×D))(k:Int):Bool:=kvs.any fun p=>decide (p.1=k)
section
variable {K:zFr}{mg:zMg}{ρ:List Addr}{H:Hp}{S:Sto}
theorem zf9:∀{kvs:List (Int×D)}{vs:List (Key×V)}{k:Int},vs.map (·.1)=kvs.map (fun p=>(Sum.inl p.1:Key))->(zig vs (Sum.inl k)).isSome=zcv kvs k
 | [],[],_,_=>rfl
 | [],_::_,_,h=>by cases h
 |_::_,[],_,h=>by cases h
 | p::kvs,q::vs,k,h=>by
   have h1:q.1=Sum.inl p.1:=(z9x h).1;have h2:vs.map (·.1)=kvs.map (fun p=>(Sum.inl p.1:Key)):=(z9x h).2;by_cases e:p.1=k
   · rw[zb5 (by rw[h1,e])];unfold zcv;rw[List.any_cons,z68 e];rfl
   · rw[zb6 (by rw[h1];exact fun z=>e (Sum.inl.inj z)),zf9 h2];unfold zcv;rw[List.any_cons,z60 e];rfl
def z01:E:=fun _ S=>some (.obj S.length,S++[.dct []])
variable {X:Cx}{a b e o i:Expr}{f g h:E}{pos:Pos}
theorem zwn:FE X (.Dict [] [] pos) z01 :=
 qy zry fun σ H Q h=>by obtain⟨ρ,ev,S,d,S',hE,hS,hf,k⟩:=h;cases hf;intro p hp;refine k _ _ _ (za7 hS _ hp) (hS.add hp ⟨[],qf,rfl,RepL.nil⟩) ?_;unfold Rep;refine⟨p,rfl,?_⟩;rw[z6y (by rw[hS.len]<;>exact z6l _),hS.len];simp
def zbw(S:Sto)(x y:D):Option D:=match x,y with
 | .int k,.obj a=>(match S[a]? with
   |some (.dct kvs)=>some (.bl (!zcv kvs k))
   |_=>none)
 |_,_=>none
def zn8:R2:=fun y x H Q=>∃a o,x=.ref a/\DGet H a y o/\Q (.bl (!o.isSome)) H
theorem zop(hu:X.A.units+1<cLine):OpR X (compareOp .NotIn) zn8:=by intro pins s σ H y x u v Q I ry rx h;obtain⟨a,o,rfl,g,q⟩:=h;obtain rfl:v=Value.ref a:=rx;exact zw0 hu I g ry fun s3 I3=>⟨.bl (!o.isSome),H,I3,rfl,q⟩
theorem zlv:zfl K mg zn8 zbw:=by
 intro ρ H S x y dx dy d Q hS rx ry e k;unfold zbw at e;split at e
 · rename_i kk a;split at e
   · rename_i kvs hd;cases e;unfold Rep at ry;obtain⟨p,rfl,hp⟩:=ry;obtain⟨vs,m1,m2,m3⟩:=hS.ob a _ p hd hp;have ex:x=kV (Sum.inl kk):=rx;rw[ex];exact⟨p,_,rfl,DGet.k m1,by rw[zf9 m2];exact k _ H (Ext.refl _ _) hS rfl⟩
   · cases e
 · cases e
theorem zsl{k:Nat}(hr:Room k X.A)(ha:FE X a f)(hb:FE X b g)(hm:behindInMarks .NotIn b=false:=by rfl):FB X (.Compare a [.NotIn] [b] pos) (bE (e2s zbw f g)):=zbt (zop (by have:=hr.un;omega)) zlv ha hb hm
def zhd(o i e:E):C:=fun ev S=>(e ev S).bind fun p=>(o ev p.2).bind fun q=>(i ev q.2).bind fun r=>match q.1,r.1 with
 | .obj a,.int k=>(match r.2[a]? with
   |some (.dct kvs)=>if zcv kvs k=false/\kvs.length<sizeLine then some (.nx ev,r.2.set a (.dct (kvs++[(k,p.1)])))else none
   |_=>none)
 |_,_=>none
theorem zwk{k:Nat}{pos':Pos}(hr:Room k X.A)(ho:FE X o f)(hi:FE X i g)(hv:FE X e h)(hs:swapsWith e (some (.Subscript o i pos')) pos.line X.env=pure false:=by rfl) :
   FS X (.Assign [.Subscript o i pos'] e pos) (zhd f g h) :=
 xw (zvj (by have:=hr.un;omega) ho hi hv hs) fun σ H D h=>by
   obtain⟨ρ,ev,S,o,S',hE,hS,hf,k⟩:=h;obtain⟨⟨d,S1⟩,q1,hf⟩:=zy hf;obtain⟨⟨y,S2⟩,q2,hf⟩:=zy hf;obtain⟨⟨z,S3⟩,q3,hf⟩:=zy hf;dsimp only at q1 q2 q3 hf;split at hf
   · rename_i a kk _;split at hf
     · rename_i kvs hd;split at hf
       · rename_i hl;cases hf;refine⟨ρ,ev,S,d,S1,hE,hS,q1,fun v ρ1 H1 E1 hS1 r1=>⟨ρ1,ev,S1,_,S2,hE.mono E1,hS1,q2,fun w ρ2 H2 E2 hS2 r2=>⟨ρ2,ev,S2,_,S3,(hE.mono E1).mono E2,hS2,q3,fun t ρ3 H3 E3 hS3 r3=>?_⟩⟩⟩;unfold Rep at r2;obtain⟨p,rfl,hp⟩:=r2;have hp3:=E3.pre _ _ hp;obtain⟨vs,m1,m2,m3⟩:=hS3.ob a _ p hd hp3;have et:t=kV (Sum.inl kk):=r3;have hn:zig vs (Sum.inl kk:Key)=none:=by
           have:=zf9 (k:=kk) m2;rw[hl.1]at this;cases q:zig vs (Sum.inl kk:Key) with
           |none=>rfl
           |some _=>rw[q]at this;cases this
         have hlen:vs.length=kvs.length:=by have:=z8y List.length m2;simpa using this
         have e0:=zbz hS3 (.dK (vs++[(Sum.inl kk,v)])) hp3;refine⟨p,_,rfl,by rw[et];exact DPut.k m1 (by rw[hlen];exact hl.2),?_⟩;rw[zrq v hn];refine k σ ρ3 _ (((E1.trans E2).trans E3).trans e0) (hS3.set hp3 ⟨_,qf,?_,?_⟩) ((((hE.mono E1).mono E2).mono E3).mono e0)
         · rw[qaw,qaw,m2];rfl
         · rw[qaw,qaw];exact(m3.append (RepL.cons ((r1.mono E2).mono E3) RepL.nil)).mono e0
       · cases hf
     · cases hf
   · cases hf
def zxf(f:E):E:=fun ev S=>(f ev S).bind fun p=>match p.1 with
 | .obj a=>(match p.2[a]? with
   |some (.lst ds)=>(ds[ds.length-1]?).map fun x=>(x,p.2.set a (.lst ds.dropLast))
   |_=>none)
 |_=>none
theorem RepL.dropLast{ds:List D}{vs:List V}(r:RepL K mg ρ H ds vs):RepL K mg ρ H ds.dropLast vs.dropLast:=by rw[List.dropLast_eq_take,List.dropLast_eq_take,<-r.length];exact r.take _
theorem z0p{apos:Pos}(ho:FE X o f)(hbase:attributeBase o "pop" X.env (eval o X.env)=eval o X.env:=by rfl)(hline:(apos.endLine==pos.line)=true:=by rfl) :
   FE X (.Call (.Attribute o "pop" apos) [] [] pos) (zxf f) :=
 qy (zy5 qav PySem.F.slot_list_pop PySem.F.type_list_pop zzl ho hbase hline) fun σ H Q h=>by
   obtain⟨ρ,ev,S,d,S',hE,hS,hf,k⟩:=h;obtain⟨⟨x,S1⟩,q1,hf⟩:=zy hf;cases x with
   | obj a=>
     dsimp only at hf;split at hf
     · rename_i ds hd;obtain⟨y,hy,hf⟩:=zav hf;cases hf;refine⟨ρ,ev,S,_,S1,hE,hS,q1,fun v ρ1 H1 E1 hS1 r1=>?_⟩;unfold Rep at r1;obtain⟨p,rfl,hp⟩:=r1;obtain⟨us,hu,ru⟩:=hS1.ob a _ p hd hp;obtain⟨w,hw,rw'⟩:=ru.get hy;have e0:=zbz hS1 (.lst us.dropLast) hp;refine⟨.inl ⟨rfl,_,SqL.of hu⟩,p,us,w,rfl,rfl,hu,by rw[<-ru.length];exact hw,?_⟩;exact k w ρ1 _ (E1.trans e0) (hS1.set hp ⟨_,qf,ru.dropLast.mono e0⟩) (rw'.mono e0)
     · cases hf
   |_=>cases hf
def zmn(f g:E):E:=fun ev S=>(f ev S).bind fun p=>(g ev p.2).bind fun q=>match p.1,q.1 with
 | .obj a,.lst bs=>(match q.2[a]? with
   |some (.lst as)=>if as.length+bs.length<=sizeLine then some (.obj q.2.length,q.2++[.lst (as++bs)])else none
   |_=>none)
 |_,_=>none
theorem zwq(ha:FE X a f)(hb:FE X b g):FE X (.BinOp a .Add b pos) (zmn f g) :=
 qy (zyy op_catL ha hb) fun σ H Q h=>by
   obtain⟨ρ,ev,S,d,S',hE,hS,hf,k⟩:=h;obtain⟨⟨x,S1⟩,q1,hf⟩:=zy hf;obtain⟨⟨y,S2⟩,q2,hf⟩:=zy hf;dsimp only at q1 q2 hf;split at hf
   · rename_i a bs _;split at hf
     · rename_i as hd;split at hf
       · rename_i hl;cases hf;refine⟨ρ,ev,S,_,S1,hE,hS,q1,fun v ρ1 H1 E1 hS1 r1=>⟨ρ1,ev,S1,_,S2,hE.mono E1,hS1,q2,fun w ρ2 H2 E2 hS2 r2=>?_⟩⟩;unfold Rep at r1;obtain⟨p,rfl,hp⟩:=r1;have hp2:=E2.pre _ _ hp;obtain⟨us,hu,ru⟩:=hS2.ob a _ p hd hp2;obtain⟨p2,vs,rfl,t2,rb⟩:=r2.refL;refine⟨p,p2,us,vs,rfl,rfl,SqL.of hu,t2.sq,by rw[<-ru.length,<-rb.length];exact hl,fun z hz=>?_⟩;refine k _ _ _ ((E1.trans E2).trans (za7 hS2 _ hz)) (hS2.add hz ⟨_,qf,(ru.append rb).mono (za7 hS2 _ hz)⟩) ?_;unfold Rep;refine⟨z,rfl,?_⟩;rw[z6y (by rw[hS2.len]<;>exact z6l _),hS2.len];simp
       · cases hf
     · cases hf
   · cases hf
def zhg(S:Sto)(x y:D):Option D:=match x,y with
 | .obj a,.lst bs=>(match S[a]? with
   |some (.lst as)=>if bndL 0 as=true/\bndL 0 bs=true then zi0 (.lst as) (.lst bs)else none
   |_=>none)
 |x,y=>zi0 x y
theorem zu4:zfl K mg (zyi K mg true) zhg:=by
 intro ρ H S x y dx dy d Q hS rx ry e k;unfold zhg at e;split at e
 · rename_i a bs;split at e
   · rename_i as hd;split at e
     · rename_i hb;obtain⟨c,e1,e⟩:=zav e;subst e;unfold Rep at rx;obtain⟨p,rfl,hp⟩:=rx;obtain⟨us,hu,ru⟩:=hS.ob a _ p hd hp;refine⟨ρ.take 0,.lst as,.lst bs,c,?_,ry.cut (n:=0) (by unfold bnd;exact hb.2),e1,k _ H (Ext.refl _ _) hS rfl⟩;unfold Rep;exact⟨p,us,rfl,.inl ⟨by simp,.inl hu⟩,ru.cut hb.1⟩
     · cases e
   · cases e
 · exact ziu ρ H S x y dx dy d Q hS rx ry e k
theorem z0w{k:Nat}(hr:Room k X.A)(ha:FE X a f)(hb:FE X b g)(hm:behindInMarks .NotEq b=false:=by exact yo _):FB X (.Compare a [.NotEq] [b] pos) (bE (e2s zhg f g)):=zbt (zoq (by have:=hr.un;omega)) zu4 ha hb hm
end
abbrev R:=Ev->Sto->Option (Str×Sto)
abbrev GR:=List D->Sto->Option (Str×Sto)
end F
namespace F
open PySem L2 PySem.Spec PySem.Calls PyProof.Rows PySem.W
structure Up where
 raised:List Str
 asked:List Str
end F
namespace F
open PySem L2 PySem.Spec PyProof.Rows
def zhr:List (Int×D)->Int->Option D
 | [],_=>none
 |p::r,k=>if p.1=k then some p.2 else zhr r k
def zdm(S:Sto)(x y:D):Option D:=match x,y with
 | .obj a,.int k=>(match S[a]? with
   |some (.dct kvs)=>zhr kvs k
   |_=>none)
 |_,_=>none
section
variable {K:zFr}{mg:zMg}{ρ:List Addr}{H:Hp}{S:Sto}
theorem zky:∀{kvs:List (Int×D)}{vs:List (Key×V)}{k:Int}{d:D},vs.map (·.1)=kvs.map (fun p=>(Sum.inl p.1:Key))->RepL K mg ρ H (kvs.map (·.2)) (vs.map (·.2))->zhr kvs k=some d->∃v,zig vs (Sum.inl k)=some v/\Rep K mg ρ H d v
 | [],_,_,_,_,_,e=>by cases e
 |_::_,[],_,_,h,_,_=>by cases h
 | p::kvs,q::vs,k,d,h,r,e=>by
   have h1:q.1=Sum.inl p.1:=(z9x h).1;have h2:vs.map (·.1)=kvs.map (fun p=>(Sum.inl p.1:Key)):=(z9x h).2;rw[z65,z65]at r;unfold RepL at r;obtain⟨v,w,er,r1,r2⟩:=r;obtain⟨rfl,rfl⟩:=z9x er;unfold zhr at e;by_cases z:p.1=k
   · rw[z64 z]at e;cases e;exact⟨q.2,zb5 (by rw[h1,z]),r1⟩
   · rw[z7a z]at e;rw[zb6 (by rw[h1];exact fun y=>z (Sum.inl.inj y))];exact zky h2 r2 e
variable {X:Cx}{a b:Expr}{f g:E}{pos:Pos}
def z2q:R2:=fun x y H Q=>∃a v,x=.ref a/\DGet H a y (some v)/\Q v H
theorem zrd:zfl K mg z2q zdm:=by
 intro ρ H S x y dx dy d Q hS rx ry e k;unfold zdm at e;split at e
 · rename_i a kk;split at e
   · rename_i kvs hd;unfold Rep at rx;obtain⟨p,rfl,hp⟩:=rx;obtain⟨vs,m1,m2,m3⟩:=hS.ob a _ p hd hp;have ex:y=kV (Sum.inl kk):=ry;obtain⟨v,e1,e2⟩:=zky m2 m3 e;refine⟨p,v,rfl,?_,k _ H (Ext.refl _ _) hS e2⟩;rw[ex,<-e1];exact DGet.k m1
   · cases e
 · cases e
theorem zwp{k:Nat}(hr:Room k X.A)(ha:FE X a f)(hb:FE X b g)(hs:z35 b:=by exact fun _ _=>rfl):FE X (.Subscript a b pos) (e2s zdm f g) :=
 qy (zvp (by have:=hr.un;omega) ha hb hs) fun _ _ _ h=>t2 zrd h
end
end F
namespace F
open PySem L2 PySem.Spec PySem.Calls PyProof.Rows PySem.W
def yn(x:Str)(lo hi:Option Int):Str:=if((Builtin.Str.strSliceIndices lo hi 1 x.length).length==x.length)=true then x else ⟨((Builtin.Str.strSliceIndices lo hi 1 x.length).filterMap (x.cps[·]?)).toArray⟩
def zvv:D->Option Int->Option Int->Option D
 | .str x,lo,hi=>if(yn x lo hi).length<=sizeLine then some (.str (yn x lo hi))else none
 |_,_,_=>none
def zwz(f:E)(a b:Pt):E:=fun ev S=>(f ev S).bind fun p=>(a ev p.2).bind fun q=>(b ev q.2).bind fun r=>(zvv p.1 q.1 r.1).map fun d=>(d,r.2)
section
variable {X:Cx}{K:zFr}{mg:zMg}{e a b:Expr}{es:List Expr}{f g:E}{ga:As}{p pos:Pos}
def z5u:V->Option Int->Option Int->Hp->VK->Prop:=fun x lo hi H Q=>∃z,x=.str z/\(yn z lo hi).length<=sizeLine/\Q (.str (yn z lo hi)) H
theorem zx7:SlR X z5u:=by
 intro pins s σ H x v vl vu lo hi sl Q I rx hs pl pu h;obtain⟨z,rfl,hz,q⟩:=h;obtain⟨t,rfl⟩:=rx;have hp:∀{v:Value}{o:Option Int},IsPart v o->∃l:Option (Int×Tok),v=partValue l/\l.map (·.1)=o:=fun h=>by
   cases h with
   |none=>exact⟨none,rfl,rfl⟩
   |int i t=>exact⟨some (i,t),rfl,rfl⟩
 obtain⟨l,rfl,rfl⟩:=hp pl;obtain⟨u,rfl,rfl⟩:=hp pu;refine⟨"str",_,PySem.F.slot_str_getitem.lookup,typeIs_str s z t,?_⟩;refine wpAny_getItem_str_slice (l:=l) (u:=u) (st:=none) hs rfl ?_;unfold sliceMade;by_cases c:((slicePicked z l u none).length==z.length)=true
 · rw[z64 (by rw[c];rfl)];have e:yn z (l.map (·.1)) (u.map (·.1))=z:=z64 c;rw[e]at q;exact⟨.str z,H,I,⟨t,rfl⟩,q⟩
 · rw[z7a (fun w=>c (by simpa using w))];have e:yn z (l.map (·.1)) (u.map (·.1))=⟨((slicePicked z l u none).filterMap (z.cps[·]?)).toArray⟩:=z7a c;rw[e]at q hz;exact⟨hz,.str _,H,I.tok _,⟨_,rfl⟩,q⟩
theorem zht{lo hi:Option Expr}{u w:Pt}{p2:Pos}(ha:FE X a f)(hl:FPt X lo u)(hh:FPt X hi w):FE X (.Subscript a (.Slice lo hi none p2) pos) (zwz f u w) :=
 qy (zkn zx7 ha hl hh) fun σ H Q h=>by
   obtain⟨ρ,ev,S,d,S',hE,hS,hf,k⟩:=h;obtain⟨⟨x,S1⟩,q1,hf⟩:=zy hf;obtain⟨⟨lo,S2⟩,q2,hf⟩:=zy hf;obtain⟨⟨hi,S3⟩,q3,hf⟩:=zy hf;obtain⟨z,q4,hf⟩:=zav hf;cases hf;refine⟨ρ,ev,S,x,S1,hE,hS,q1,fun v ρ1 H1 E1 hS1 r1=>⟨ρ1,ev,S1,lo,S2,hE.mono E1,hS1,q2,fun ρ2 H2 E2 hS2=>⟨ρ2,ev,S2,hi,_,(hE.mono E1).mono E2,hS2,q3,fun ρ3 H3 E3 hS3=>?_⟩⟩⟩;have r3:=(r1.mono E2).mono E3;have E:=(E1.trans E2).trans E3;cases x with
   | str y=>
     replace q4:(if(yn y lo hi).length<=sizeLine then some (D.str (yn y lo hi))else none)=some d:=q4;split at q4
     · rename_i hn;cases q4;exact⟨y,r3.refS,hn,k _ _ _ E hS3 rfl⟩
     · cases q4
   |_=>cases q4
end
theorem zsw{c:Addr}{q:Str}(h1 h2:Heap)(p:zad c q h1)(k:∀o,h1.get? c=some o->h2.get? c=some o):zad c q h2:=by obtain⟨c',o,vs,t,e,h,r⟩:=p;cases e;exact⟨_,o,vs,t,rfl,k _ h,r⟩
theorem zsx{c:Addr}{q:Str}{h:Heap}(p:zad c q h):∃o,h.get? c=some o:=by obtain⟨c',o,vs,t,e,h,r⟩:=p;cases e;exact⟨_,h⟩
theorem zm3{p:Pos}{a b:Int}{cv x:Value}(l:List Value)(h:TriplesOk l):codeAmong p (l++[rawInt a,rawInt b,cv])=some x->codeAmong p l=some x\/x=cv:=by
 fun_induction TriplesOk l with
 | case1=>
   intro e;simp only[List.nil_append,rawInt,codeAmong]at e;split at e
   · exact .inr (z7s e).symm
   · cases e
 | case2 i t j u c rest ih=>
   intro e;simp only[List.cons_append,codeAmong]at e ⊢;split at e
   · rename_i z;rw[z64 z];exact .inl e
   · rename_i z;rw[z7a z];exact ih h e
 |case3=>exact h.elim
section
variable {X:Cx}{pins:zAO}{σ:L2.St}{H:Hp}{s:Shared}
theorem zpj{P c:Addr}{ps more:Array Value}{q:Str}{h':Heap}{tk:Nat}(I:Inv X pins σ H s)(hP:H P=some (.tbl ps))(hx:Heap.ExtBut P s.heap h')(ht:h'.get? P=some (tabObj (ps++more)))(hge:s.heap.objs.size<=c)(hc:zad c q h') :
   Inv X pins σ (upd (upd H P (.tbl (ps++more))) c (.ext (zad c q))) { s with heap:=h',toks:=tk }:=by
 have hn:H c=none:=I.hok.fresh hge;have hPc:P≠c:=z7b (z6p (I.hok.lt hP) hge);have neP:∀b,H b=none->b≠P:=fun b n z=>by rw[z,hP]at n;cases n
 have nec:∀b u,H b=some u->b≠c:=fun b u e z=>by rw[z,hn]at e;cases e
 have kp:∀b o,s.heap.get? b=some o->b≠P->h'.get? b=some o:=fun b o e n=>hx b o n e;have keepH:∀b u,H b=some u->(∀ps,u≠.tbl ps)->upd (upd H P (.tbl (ps++more))) c (.ext (zad c q)) b=some u:=fun b u e n=>by rw[qd (nec b u e),qd (fun z=>by rw[z,hP]at e;cases e;exact n ps rfl)];exact e
 refine I.un ⟨fun b o e n _ _=>kp b o e (neP b n),fun b o e n _ _=>⟨o.slots,kp b o e (neP b n)⟩,fun b o e n _=>?_,fun b o e _=>?_,fun b xs e=>keepH b _ e (fun _ z=>by cases z),fun b o u e=>keepH b _ e (fun _ z=>by cases z),fun b qs e=>?_⟩ fun b u e=>?_
 · have hb:b<s.heap.objs.size:=z69 e;rw[qd (z7b (z6p hb hge)),qd (neP b n)];exact n
 · by_cases z:b=P
   · exact⟨_,z▸ht⟩
   · exact⟨o,kp b o e z⟩
 · by_cases z:b=P
   · subst z;rw[hP]at e;cases e;exact⟨more,by rw[qd hPc,qf]⟩
   · exact⟨#[],by rw[qd (nec b _ e),qd z,e];simp⟩
 · by_cases zc:b=c
   · subst zc;rw[qf]at e;cases e;exact⟨hc,zsx hc,fun h1 h2 p k=>zsw h1 h2 p k⟩
   · rw[qd zc]at e;by_cases z:b=P
     · subst z;rw[qf]at e;cases e;exact ht
     · rw[qd z]at e;refine(I.hok b u e).stay (fun d o hd w=>?_) (fun d w=>keepH d _ w fun _ y=>by cases y) fun d xs w=>keepH d _ w fun _ y=>by cases y
       refine kp d o w fun y=>?_;rcases hd with rfl | hd
       · exact z y
       · rw[y,hP]at hd;cases hd
theorem zpk{t:LT}{c:Addr}{pm ct:Value}{h':Heap}{tk:Nat}(I:Inv X pins σ H s)(hk:∀b o,s.heap.get? b=some o->h'.get? b=some o)(hsz:s.heap.objs.size<=h'.objs.size) :
   Inv X pins σ (upd H h'.objs.size (.ext (zt2 t h'.objs.size c pm ct))) { s with heap:=h'.push (kla_obj "<lambda>" t.qual t.params t.body t.scope t.cl pm c ct),toks:=tk }:=by
 refine I.laid (t':=tk) (fun b o e=>z6u _ (hk b o e)) hsz ?_;refine⟨z7j _ rfl,⟨_,z7j _ rfl⟩,fun h1 h2 p k=>k _ p⟩
end
def zud(j:Nat)(x:Str)(t:LT):E:=fun _ S=>match S[j]? with
 |some (.tab x' q)=>if x'=x/\q=t.qual then some (.lam t,S)else none
 |_=>none
def zck(K:Frag)(mg:zMg)(x:Str)(cdv:Value):Prop:=∃(f:Addr) (o:Obj) (fd:FuncData),mg x=some (.ref f)/\K.lookup f=some o/\o.data=.func fd/\fd.code=cdv
def zm5(base:Heap)(mg:zMg):Prop:=∃(bm:Addr) (o:Obj),mg "__builtins__"=some (.ref bm)/\bm≠builtinsNs/\bm≠mainGlobals/\base.get? bm=some o/\o.cls=.type "module"/\o.dict=some builtinsNs/\o.data=.plain
section
variable {X:Cx}{x:Str}{params:Arguments}{body:Expr}{scope:Scope}{pos:Pos}
theorem zka{K mg ρ H}{S:Sto}(hS:StOk K mg ρ H S){j:Nat}{P c:Addr}{x q:Str}{ps:Array Value}{a b:Int}(hj:S[j]? = some (.tab x q))(hP:ρ[j]? = some P)(hps:H P=some (.tbl ps))(hn:H c=none) :
   Ext ρ H ρ (upd (upd H P (.tbl (ps++#[rawInt a,rawInt b,.ref c]))) c (.ext (zad c q)))/\StOk K mg ρ (upd (upd H P (.tbl (ps++#[rawInt a,rawInt b,.ref c]))) c (.ext (zad c q))) S:=by
 have cf:c∉ρ:=hS.fresh hn;have hPc:P≠c:=fun z=>cf (z▸z7n hP);have e0:Ext ρ H ρ (upd (upd H P (.tbl (ps++#[rawInt a,rawInt b,.ref c]))) c (.ext (zad c q))) :=
   ⟨fun _ _ e=>e,fun d u e n=>by
     rw[qd (a:=c) (fun(z:d=c)=>by rw[z,hn]at e;cases e),qd (a:=P) (fun(z:d=P)=>n (by rw[z];exact z7n hP))];exact e,fun _ z n=>absurd z n⟩
 refine⟨e0,hS.len,hS.nd,fun i m d e1 e2=>?_⟩;by_cases hi:i=j
 · subst hi;rw[hj]at e1;cases e1;rw[hP]at e2;cases e2;obtain⟨T,ps',h1,h2,h3⟩:=hS.ob i _ P hj hP;rw[hps]at h1;cases h1;refine⟨T,_,by rw[qd hPc,qf],by rw[z7q];exact TriplesOk_snoc a b _ _ h2,fun pos cv z=>?_⟩;rw[z7q]at z;rcases zm3 _ h2 z with y | y
   · obtain⟨c',z1,z2,z3⟩:=h3 pos cv y;exact⟨c',z1,z2,e0.keep _ _ z3 z2⟩
   · exact⟨c,y,cf,qf⟩
 · have q:=hS.ob i m d e1 e2;obtain⟨u,z⟩:=q.some;exact q.mono e0 (by rw[qd (a:=c) (fun(y:d=c)=>by rw[y,hn]at z;cases z),qd (a:=P) (fun(y:d=P)=>hi (zkr hS.nd (by rw[e2,y]) hP))])
theorem zp5(j:Nat){caps:List Str}{cl:zLA}(hcd:zck X.K X.mg x X.env.code)(hb:zm5 X.base X.mg)(hcl:closureFor scope X.env=pure cl)(hdef:defaultsOf params X.env=([],[]):=by rfl) :
   FE X (.Lambda params body scope pos) (zud j x ⟨params,body,scope,X.env.qual++"<lambda>",caps,cl⟩):=by
 intro pins s σ H Q I h;obtain⟨ρ,ev,S,d,S',hE,hS,hf,k⟩:=h;unfold zud at hf;split at hf
 · rename_i x' q hj;split at hf
   · rename_i hxq;obtain⟨rfl,rfl⟩:=hxq;cases hf;obtain⟨P,hP,T,ps,hps,htr,hcs⟩:=hS.adr hj;obtain⟨f1,o1,fd1,c1,e1,e2,e3,e4,e5⟩:=T;obtain⟨f2,o2,fd2,g1,g2,g3,g4⟩:=hcd;rw[e1]at g1;cases g1;rw[e2]at g2;cases g2;rw[e3]at g3;cases g3;have hcode:X.env.code=.ref c1:=g4.symm.trans e4;have C:CodeHd s.heap c1 P:=codeHd_of_K I.kIn e5;have hPt:s.heap.get? P=some (tabObj ps):=I.hok P _ hps;have bs:=I.bs;have nP:∀b o,X.base.get? b=some o->b≠P:=fun b o e z=>by have:=(bs b o e).2;rw[z,hps]at this;cases this
     have hg:s.heap.Ns mainGlobals X.mg:=by obtain⟨o,es,ep,ho,r⟩:=I.mod.glob;exact⟨o,es,ep,I.bk _ _ ho,r⟩
     have hgP:mainGlobals≠P:=by obtain⟨o,es,ep,ho,r⟩:=I.mod.glob;exact nP _ _ ho
     obtain⟨bm,ob,b1,b2,b3,b4,b5,b6,b7⟩:=hb;have hBA:s.heap.BuiltinsAt X.mg P:=⟨bm,ob,b1,b2,b3,nP _ _ b4,I.bk _ _ b4,b5,b6,b7⟩
     refine kla_eval hdef ?_;cases hca:codeAmong pos ps.toList with
     | none=>
       refine kla_makeFunction hcl I.ok.glob hg hcode C hPt htr hca hgP hBA fun c' ctv h' tk hx hge hlt hrec htb=>?_;have hn:H c'=none:=I.hok.fresh hge;have I1:=zpj (q:=X.env.qual++"<lambda>") (tk:=tk) I hps hx htb hge hrec;have I2:=zpk (t:=⟨params,body,scope,X.env.qual++"<lambda>",caps,cl⟩) (c:=c') (pm:=(X.mg "__name__").getD .none) (ct:=ctv) (h':=h') (tk:=tk) I1 (fun _ _ e=>e) (z6l _);obtain⟨E1,S1⟩:=zka (a:=pos.line) (b:=pos.col) hS hj hP hps hn;have hf:=I1.hok.fresh (a:=h'.objs.size) (z6l _);have E2:=ji S1 (.ext (zt2 ⟨params,body,scope,X.env.qual++"<lambda>",caps,cl⟩ h'.objs.size c' ((X.mg "__name__").getD .none) ctv)) hf;refine⟨.ref h'.objs.size,_,I2,rfl,k _ ρ _ (E1.trans E2) (S1.new _ hf) ?_⟩;unfold Rep;exact⟨_,rfl,S1.fresh hf,c',_,_,hS.fresh hn,qf,by rw[qd (z7b hlt),qf]⟩
     | some cv=>
       obtain⟨c',rfl,nc,hc'⟩:=hcs pos cv hca;refine kla_makeFunctionHit hcl I.ok.glob hg hcode C hPt htr hca hBA fun ctv h' tk hk hsz=>?_;have hf:H h'.objs.size=none:=I.hok.fresh hsz;have I2:=zpk (t:=⟨params,body,scope,X.env.qual++"<lambda>",caps,cl⟩) (c:=c') (pm:=(X.mg "__name__").getD .none) (ct:=ctv) (h':=h') (tk:=tk) I hk hsz;have E2:=ji hS (.ext (zt2 ⟨params,body,scope,X.env.qual++"<lambda>",caps,cl⟩ h'.objs.size c' ((X.mg "__name__").getD .none) ctv)) hf;refine⟨.ref h'.objs.size,_,I2,rfl,k _ ρ _ E2 (hS.new _ hf) ?_⟩;unfold Rep;exact⟨_,rfl,hS.fresh hf,c',_,_,nc,qf,E2.keep _ _ hc' nc⟩
   · cases hf
 · cases hf
theorem z0s(j:Nat)(hcd:zck X.K X.mg x X.env.code)(hb:zm5 X.base X.mg)(hdef:defaultsOf params X.env=([],[]):=by rfl)(hcl:closureFor scope X.env=pure []:=by rfl) :
   FE X (.Lambda params body scope pos) (zud j x ⟨params,body,scope,X.env.qual++"<lambda>",[],[]⟩):=zp5 j hcd hb hcl hdef
end
def zcs(N n:Nat)(f:E):G:=fun ds S=>if ds.length=n then f (ds.map some++List.replicate (N-ds.length) none) S else none
def z15(t:LT)(a c:Addr)(pm ct:Value)(H:Hp):Prop:=H a=some (.ext (zt2 t a c pm ct))/\H c=some (.ext (zad c t.qual))
section
variable {P:Program}{w:World}{K:Frag}{mg:zMg}{base:Heap}{k:Nat}{t:LT}{N ps:List Str}{f:E}
theorem zqp{N n:Nat}{ds:List D}{S:Sto}{r:D×Sto}(h:zcs N n f ds S=some r):ds.length=n:=by
 unfold zcs at h;split at h
 · rename_i e;exact e
 · cases h
theorem zzt(S:FnScope N ps t.scope)(h0:t.cl=[])(a c:Addr)(pm ct:Value)
   (hbody:∀(A:Around) (outer:List Env) (s:Shared) (H:Hp) (E:XK),Room k (A.deeper (envOfC t.qual t.scope s.heap.objs.size a (.ref c)))->FE (zg4 CX0 P w K mg base N t.qual t.scope a (.ref c) A outer s H E).nox t.body f) :
   FnOk P w K mg base CX0 (k+1) a (kla_fn "<lambda>" t.qual t.params t.body t.scope [] pm (.ref c) ct) ps (fun vs H Q E=>z15 t a c pm ct H/\spG K mg (zcs N.length ps.length f) vs H Q E):=by
 have len:∀vs H Q E,(z15 t a c pm ct H/\spG K mg (zcs N.length ps.length f) vs H Q E)->vs.length=ps.length:=fun vs H Q E h=>by obtain⟨_,ρ,ds,S,d,S',r,hS,hf,_⟩:=h;rw[<-r.length];exact zqp hf
 refine⟨len,fun A outer s H args us vs Q E hr e0 hb r hsp=>?_⟩;have hl:=len _ _ _ _ hsp;obtain⟨⟨hA,hC⟩,ρ,ds,S0,d,S',rr,hS,hf,kk⟩:=hsp;have lim:s.heap.NoLimit:=e0.mod.nolimit.keeps fun b o e=>(e0.bs b o e).1;have ho:s.heap.get? a=some (kla_obj "<lambda>" t.qual t.params t.body t.scope [] pm c ct):=by have:=(e0.hok a _ hA).1;unfold zt2 at this;rw[h0]at this;exact this
 have hcd:s.heap.CodeRec (.ref c) t.qual:=(e0.hok c _ hC).1;have hkind:∀y∈ps.zip us,t.scope.names.lookup y.1=some .local\/(t.scope.names.lookup y.1=some .cell/\((cellsFrom (s.heap.objs.size+1) t.scope.names []).lookup y.1).isSome=true):=fun⟨n,v⟩ hy=>by
   rcases S.par n (z9g hy).1 with q | q
   · exact .inl q
   · exact .inr ⟨q,cellsFrom_some _ _ _ (.inl q)⟩
 refine kla_callFunE hr.depth ho rfl S.co S.gen rfl hcd (hb _ _ _ _ ?_);refine wpAny_newFunctionEnv_cells S.kind hkind fun env he s1 x=>?_;subst he;refine⟨lim.keeps x.toInCall.keep,kla_codeExpr ?_⟩;have I:Inv (zg4 CX0 P w K mg base N t.qual t.scope a (.ref c) A outer s H E) [] (start N vs) H s1:=zhq S hr.hd e0 hl r x;unfold zcs at hf;split at hf
 · have hpe:=(hbody A outer s H E (hr.deeper _)).nox;refine z8o (hpe [] s1 (start N vs) H Q I ⟨ρ,_,S0,d,S',EnvR.start rr,hS,hf,kk⟩) (fun v s' hs=>?_) fun e s' hs=>hs;obtain⟨v',H',J,rv,q⟩:=hs;exact⟨v',H',J.os,J.bare,J.base,J.hok,rv,q⟩
 · cases hf
structure LCal (P:Program) (w:World) (K:Frag) (mg:zMg) (base:Heap) (k:Nat) (t:LT) (g:G):Prop where
 ex:∃ps:List Str,(∀(a c:Addr) (pm ct:Value),FnOk P w K mg base CX0 k a (kla_fn "<lambda>" t.qual t.params t.body t.scope [] pm (.ref c) ct) ps (fun vs H Q E=>z15 t a c pm ct H/\spG K mg g vs H Q E)) /\
   ∀(c:Addr) (pm ct:Value),Binds K (kla_fn "<lambda>" t.qual t.params t.body t.scope [] pm (.ref c) ct) ps []
theorem LCal.mono{j:Nat}{g:G}(c:LCal P w K mg base j t g)(h:j<=k):LCal P w K mg base k t g :=
 let⟨ps,F,b⟩:=c.ex;⟨ps,fun a c pm ct=>(F a c pm ct).mono h,b⟩
theorem LCal.of(S:FnScope N ps t.scope)(hb:∀(c:Addr) (pm ct:Value) (us:List Value),us.length=ps.length->bindArgs (kla_fn "<lambda>" t.qual t.params t.body t.scope [] pm (.ref c) ct) ⟨us,[]⟩=pure (ps.zip us))
   (hbody:∀(a c:Addr) (A:Around) (outer:List Env) (s:Shared) (H:Hp) (E:XK),Room k (A.deeper (envOfC t.qual t.scope s.heap.objs.size a (.ref c)))->FE (zg4 CX0 P w K mg base N t.qual t.scope a (.ref c) A outer s H E).nox t.body f)
   (h0:t.cl=[]:=by rfl):LCal P w K mg base (k+1) t (zcs N.length ps.length f) :=
 ⟨ps,fun a c pm ct=>zzt S h0 a c pm ct (hbody a c),fun c pm ct=>.all (hb c pm ct)⟩
end
def zac(ft:Str->Option G)(lt:LT->Option G)(f:E)(a:As):E:=fun ev S=>(f ev S).bind fun p=>match p.1 with
 | .fn x=>(ft x).bind fun g=>(a ev p.2).bind fun q=>g q.1 q.2
 | .lam t=>(lt t).bind fun g=>(a ev p.2).bind fun q=>g q.1 q.2
 |_=>none
section
variable {X:Cx}{k:Nat}{f:E}{a:As}{e:Expr}{es:List Expr}{pos:Pos}
theorem zbn{fe:Expr}{ft:Str->Option G}{lt:LT->Option G}(hT:∀x g,ft x=some g->Cal X.prog X.w X.K X.mg X.base k x g)(hL:∀t g,lt t=some g->LCal X.prog X.w X.K X.mg X.base k t g)(hr:Room k X.A)(hf:FE X fe f)(ha:FA X (e::es) a)
   (ht:eval (.Call fe (e::es) [] pos) X.env=(eval fe X.env >>= fun v=>callWith pos v [] (backTo pos (starEach (e::es) X.env)) (backToKw pos (keywordEach [] X.env))):=by rfl)
   (he:starEach (e::es) X.env=(false,eval e X.env)::starEach es X.env:=by exact qb rfl) (hpl:(backTo pos (starEach es X.env)).any (·.1)=false:=by exact jh rfl) :
   FE X (.Call fe (e::es) [] pos) (zac ft lt f a):=by
 intro pins s σ H Q I h;obtain⟨ρ,ev,S,d,S',hE,hS,hf',kk⟩:=h;obtain⟨⟨y,S1⟩,q1,hf'⟩:=zy hf';cases y with
 | fn x=>
   refine zsk (ft:=ft) hT hr hf ha ht he hpl pins s σ H Q I ⟨ρ,ev,S,d,S',hE,hS,?_,kk⟩;unfold zug;rw[q1];exact hf'
 | lam t=>
   rw[ht];dsimp only at hf';obtain⟨g,hx,hf'⟩:=zy hf';obtain⟨⟨ds,S2⟩,q2,hf'⟩:=zy hf';obtain⟨ps,F,hb⟩:=(hL t g hx).ex;refine z6m (thn (hf pins s σ H (fun v H1=>∃ρ1 a0,v=.ref a0/\Ext ρ H ρ1 H1/\StOk X.K X.mg ρ1 H1 S1/\LamAt ρ1 H1 t a0) I ⟨ρ,ev,S,_,S1,hE,hS,q1,fun v ρ1 H1 E1 hS1 r1=>?_⟩) fun u s1 ⟨v,H1,I1,rv,ρ1,a0,ev1,E1,hS1,L1⟩=>?_)
   · unfold Rep at r1;obtain⟨b,rfl,L⟩:=r1;exact⟨ρ1,b,rfl,E1,hS1,L⟩
   · subst ev1;obtain rfl:u=Value.ref a0:=rv;obtain⟨n0,c,pm,ct,nc,hA,hC⟩:=L1;have at_:∀{H':Hp}{s':Shared},Inv X pins σ H' s'->H' a0=some (.ext (zt2 t a0 c pm ct))->FnAt a0 s'.heap:=fun J e=>⟨_,_,_,_,(J.hok a0 _ e).1⟩
     refine callWith_F (at_ I1 hA) (thn (ha pos pins s1 σ H1 (fun vs H2=>(H2 a0=some (.ext (zt2 t a0 c pm ct)))/\(z15 t a0 c pm ct H2/\spG X.K X.mg g vs H2 Q E0)) I1 ⟨ρ1,ev,S1,ds,S2,hE.mono E1,hS1,q2,fun vs ρ2 H2 E2 hS2 r2=>?_⟩) fun us s2 ⟨vs,H2,I2,r,hA2,q2⟩=>⟨at_ I2 hA2,?_⟩) he hpl
     · have h1:=E2.keep _ _ hA n0;have h2:=E2.keep _ _ hC nc;exact⟨h1,⟨h1,h2⟩,ρ2,ds,S2,d,S',r2,hS2,hf',fun v ρ' H' E' hS' r'=>kk v ρ' H' ((E1.trans E2).trans E') hS' r'⟩
     · exact ze4 (ds:=[]) (dvs:=[]) (F a0 c pm ct) hr (hb c pm ct) .nil ziz I2 r (by rw[z7h];exact q2)
 |_=>cases hf'
end
end F
namespace F
open PySem L2 PySem.Spec PyProof.Rows PySem.W
def zun(tabs:List (Str×Str))(g:G):Prop:=∀ns:List Int,ns.length<=63->∃S,g [.lst (ns.map D.int)] (tabs.map fun p=>MO.tab p.1 p.2)=some (.bl true,S)
def H0(ts:List Addr)(so:Option (Addr×HO)):Hp:=fun b=>if b∈ts then some (.tbl #[])else match so with
 |some (a,o)=>if b=a then some o else none
 |none=>none
theorem zhk{as:List Addr}:∀{K:Frag}{P:Addr},as=K.map (·.1)->P∉as->K.lookup P=none
 | [],_,_,_=>rfl
 | (b,o)::K,P,e,h=>by
   subst e;rw[z65,z6n,not_or]at h;have hb:(P==b)=false:=by simpa using h.1
   simp only[List.lookup,hb];exact zhk rfl h.2
section
variable {P:Program}{w:World}{K:Frag}{mg mb:zMg}{k:Nat}{fa a:Addr}{fd:FuncData}{x:Str}{sp:Sp}{s₁:Shared}{vs:List Value}{ns:List Int}{ts:List Addr}
theorem zpb(KX:K.In s₁.heap)(hns:s₁.heap.Ns mainGlobals mg)(hb:s₁.heap.Ns builtinsNs mb)(hbb:∀x:Str,x≠"__name__"->mb x=bootBuiltins x)(hlim:s₁.heap.NoLimit)(hg:s₁.gens=#[])
   (ha:s₁.heap.get? a=some { cls:=.type "list",data:=.seq vs.toArray }) (hi:IntsAre vs ns) (hl:ns.length<=sizeLine) (hr:Room k callerA)
   (hts:∀Q∈ts,s₁.heap.get? Q=some (tabObj #[])/\K.lookup Q=none/\isCodeTable s₁.heap Q)
   (hbm:zm5 s₁.heap mg) (F:∀base:Heap,K.In base->base.Ns mainGlobals mg->zm5 base mg->FnOk P w K mg base CX0 k fa fd [x] sp) (hbind:∀(s:Shared) (u:Value),BindsTo s fd ⟨[u],[]⟩ [(x,u)])
   (hsp:∀so:Option (Addr×HO),a∉ts->SqL K (H0 ts so) a (ns.map V.int)->sp [.ref a] (H0 ts so) (fun v _=>v=.bl true) fun _ _ _=>False) :
   codeAny (model P w) callerA (.call (.ref fa) ⟨[.ref a],[]⟩) (fun r s'=>r=.ok (.ret (.bool true))/\OldK s₁.heap s'.heap/\s'.os=s₁.os/\AllBare s'.gens) s₁:=by
 have rv:=zg8 hi;have lenV:=hi.length;have nat:a∉ts:=fun z=>by have e:=(hts a z).1;rw[ha]at e;cases e
 have core:∀so:Option (Addr×HO),(∀b o,so=some (b,o)->b=a/\K.lookup a=none/\o=.frz { cls:=.type "list",data:=.seq vs.toArray } (.lst (ns.map V.int)))->SqL K (H0 ts so) a (ns.map V.int) ->
     codeAny (model P w) callerA (.call (.ref fa) ⟨[.ref a],[]⟩) (fun r s'=>r=.ok (.ret (.bool true))/\OldK s₁.heap s'.heap/\s'.os=s₁.os/\AllBare s'.gens) s₁:=by
   intro so hso hS;have cases3:∀b,H0 ts so b=none\/(b∈ts/\H0 ts so b=some (.tbl #[]))\/(b=a/\K.lookup a=none/\H0 ts so b=some (.frz { cls:=.type "list",data:=.seq vs.toArray } (.lst (ns.map V.int)))):=fun b=>by
     by_cases z:b∈ts
     · exact .inr (.inl ⟨z,z64 z⟩)
     · cases so with
       |none=>exact .inl (z7a z)
       | some p=>
         obtain⟨c,o⟩:=p;obtain⟨h1,h2,h3⟩:=hso c o rfl;by_cases y:b=c
         · refine .inr (.inr ⟨y.trans h1,h2,?_⟩);unfold H0;rw[z7a z];show(if b=c then some o else none)=_;rw[z64 y,h3]
         · refine .inl ?_;unfold H0;rw[z7a z];exact z7a y
   have hok:HOk P w (H0 ts so) s₁.heap:=fun b u e=>by
     rcases cases3 b with q | ⟨q1,q2⟩ | ⟨rfl,_,q2⟩
     · rw[q]at e;cases e
     · rw[q2]at e;cases e;exact(hts b q1).1
     · rw[q2]at e;cases e;exact⟨ha,by rw[z8s];exact hl,vs,_,rv,ha⟩
   have free:∀{b:Addr}{o:Obj}{es:Array DictEntry}{ep:Nat},s₁.heap.get? b=some o->o.data=.dict es ep->H0 ts so b=none:=fun {b o es ep} e d=>by
     rcases cases3 b with q | ⟨q1,_⟩ | ⟨rfl,_,_⟩
     · exact q
     · rw[(hts b q1).1]at e;cases e;cases d
     · rw[ha]at e;cases e;cases d
   have nsK:∀{b:Addr}{m:zMg},s₁.heap.Ns b m->(zsd s₁.heap (H0 ts so)).Ns b m:=fun⟨o,es,ep,e,d,r⟩=>⟨o,es,ep,zgd e (free e d),d,r⟩
   have hKb:K.In (zsd s₁.heap (H0 ts so)):=fun b o e=>zgd (KX b o e) (by
     rcases cases3 b with q | ⟨q1,_⟩ | ⟨rfl,q1,_⟩
     · exact q
     · rw[(hts b q1).2.1]at e;cases e
     · rw[q1]at e;cases e)
   have hM:Mod K mg (zsd s₁.heap (H0 ts so)):=⟨hKb,nsK hns,⟨mb,nsK hb,hbb⟩,let⟨mc,h1,h2⟩:=hlim;⟨mc,nsK h1,h2⟩⟩
   have e0:Env0 P w K mg (zsd s₁.heap (H0 ts so)) callerA [] s₁ (H0 ts so):=⟨rfl,hM,fun b o e=>zvw e,Nat.le_of_eq (zpp _ _),trivial,fun b hb=>absurd (show b∈([]:List Addr)from hb) (by simp),hok,.of_eq hg⟩
   have hB:zm5 (zsd s₁.heap (H0 ts so)) mg:=by
     obtain⟨bm,ob,b1,b2,b3,b4,b5,b6,b7⟩:=hbm;refine⟨bm,ob,b1,b2,b3,zgd b4 ?_,b5,b6,b7⟩;rcases cases3 bm with q | ⟨q1,_⟩ | ⟨rfl,_,_⟩
     · exact q
     · rw[(hts bm q1).1]at b4;cases b4;cases b7
     · rw[ha]at b4;cases b4;cases b7
   refine qa5 ((F _ hKb (nsK hns) hB).run callerA [] s₁ (H0 ts so) ⟨[.ref a],[]⟩ [.ref a] [.ref a] _ _ hr e0 (hbind s₁ (.ref a)) (.cons rfl .nil) (hsp so nat hS)) fun r s' h=>?_;cases r with
   |error e=>exact False.elim h
   | ok fl=>
     cases fl with
     |next=>exact False.elim h
     |brk=>exact False.elim h
     |cont=>exact False.elim h
     | ret u=>
       obtain⟨v,H',os,bare,un,hok',r',q⟩:=h;obtain rfl:v=.bl true:=q;obtain rfl:u=Value.bool true:=r';refine⟨rfl,⟨fun b o e=>?_,fun b o e=>un.there b o e (by simp)⟩,os,bare⟩;rcases cases3 b with q | ⟨q1,q2⟩ | ⟨_,_,q2⟩
       · exact .inl (un.keep b o e q (fun z=>absurd (show b∈([]:List Addr)from z) (by simp)) (by simp))
       · obtain⟨more,z⟩:=un.tbls b _ q2;have e1:=(hts b q1).1;rw[e]at e1;cases e1;exact .inr (.inl ⟨(hts b q1).2.2,rfl,#[],more,rfl,hok' b _ z⟩)
       · have z:=un.frzs b _ _ q2;obtain⟨e1,_⟩:=hok b _ q2;obtain⟨e2,_⟩:=hok' b _ z;rw[e]at e1;cases e1;exact .inl e2
 cases hk:K.lookup a with
 | some o=>
   have e:=KX a o hk;rw[ha]at e;cases e;exact core none (fun b o z=>by cases z) (.inr ⟨_,vs.toArray,_,hk,rfl,rfl,rfl,by rw[z6v,lenV];exact hl,by simpa using rv⟩)
 | none=>
   refine core (some (a,.frz { cls:=.type "list",data:=.seq vs.toArray } (.lst (ns.map V.int)))) (fun b o z=>by cases z;exact⟨rfl,hk,rfl⟩) (.inl (.inr ⟨{ cls:=.type "list",data:=.seq vs.toArray },?_⟩));unfold H0;rw[z7a nat];exact z64 rfl
end
theorem zmq{K:Frag}{h:Heap}{c Q:Addr}(X:K.In h)(e:codeHdIn K c Q=true):isCodeTable h Q:=by obtain⟨o,vs,_,_,_,_,_,_,_,h1,h2,h3,h4,_⟩:=codeHd_of_K X e;exact⟨c,o,vs,h1,h2,h3,h4⟩
theorem law_walkT{l:OpenLaw}{q:Program}{loose:List Str}{XP:(zMg)->Heap->Prop}{d:DefRec}{K:Params->Frag}{as:List Addr}{e:∀P,as=(K P).map (·.1)}{ts:List Addr}{k:Nat}{g:G}{x:Str}(tabs:List (Str×Str))
   (hn:l.most=some 63) (hdf:d.params.defaults=[]) (hr:Room k callerA) (hts:ts.Nodup) (has:∀Q∈ts,Q∉as) (hlen:ts.length=tabs.length) (hg:zun tabs g)
   (F:∀(w:World) (mg:zMg) (fa:Addr) (h:Heap),(K w.params).In h->h.Ns mainGlobals mg->mg d.name=some (.ref fa) ->
     (∀(i:Nat) (p:Str×Str) (Q:Addr),tabs[i]? = some p->ts[i]? = some Q->zw9 (K w.params) mg p.1 Q) /\
     ∃fd:FuncData,(∀(s:Shared) (u:Value),BindsTo s fd ⟨[u],[]⟩ [(x,u)])/\∀base:Heap,(K w.params).In base->base.Ns mainGlobals mg->zm5 base mg->FnOk l.prog w (K w.params) mg base CX0 k fa fd [x] (spG (K w.params) mg g)) :
   WalkO q loose XP (kmHook K as e ts).says l.row.toRowW d [] (fun f vs=>PySem.call f vs):=by
 refine Att.attach_call hn hdf fun w s₀ s₁ mg mb fa o pm cd doc a vs ns G Y ho hd hcd hmg hobj hints hlen' hg'=>?_;have KX:=km_in_of Y;have TX:=km_tabs_of Y;obtain⟨T,fd,hb,hF⟩:=F w mg fa _ KX G.T.g hmg;have hbm:zm5 s₁.heap mg:=by obtain⟨bm,ob,b1,b2,b3,b4,b5,b6⟩:=G.T.bmain;refine⟨bm,ob,b1,b2,fun q=>?_,b3,b4,b5,b6⟩;obtain⟨o,es,ep,e,hd,_⟩:=G.T.g;rw[q,e]at b3;cases b3;rw[hd]at b6;cases b6
 refine zpb (k:=k) (fd:=fd) (x:=x) (ts:=ts) (sp:=spG (K w.params) mg g) KX G.T.g G.T.b G.T.builtins G.T.nolimit hg' hobj hints (z67 hlen' (by decide)) hr (fun Q hQ=>⟨TX Q hQ,zhk (e w.params) (has Q hQ),?_⟩) hbm hF hb fun so nat hS=>?_
 · obtain⟨i,hi,ei⟩:=z7i hQ;obtain⟨f,o,fd,c,_,_,_,_,z⟩:=T i (tabs[i]'(by omega)) Q (z6s (by omega)) (by rw[z6s hi,ei]);exact zmq KX z
 · obtain⟨S,hS'⟩:=hg ns hlen';have tb:∀Q∈ts,H0 ts so Q=some (.tbl #[]):=fun Q hQ=>z64 hQ;refine⟨ts,[.lst (ns.map D.int)],tabs.map fun p=>MO.tab p.1 p.2,.bl true,S,?_,⟨by rw[z8s];exact hlen,hts,fun i m b e1 e2=>?_⟩,hS',fun v ρ' H' _ _ r=>by rw[show v=.bl true from r]⟩
   · refine RepL.cons ?_ RepL.nil;unfold Rep;refine⟨a,ns.map V.int,rfl,?_,zkh ns⟩;rcases hS with hS | hS
     · exact .inl ⟨nat,hS⟩
     · exact .inr hS
   · rw[z72]at e1;cases hp:tabs[i]? with
     |none=>rw[hp]at e1;cases e1
     | some p=>
       rw[hp]at e1;cases e1;exact⟨T i p b hp e2,#[],tb b (z7n e2),trivial,fun pos cv z=>by cases z⟩
section
variable {P:Program}{w:World}{K:Frag}{mg:zMg}{base:Heap}{x qual:Str}{st:Stmt}{N ps:List Str}{k:Nat}{b:C}{dV:Value}{f:Addr}{fd:FuncData}
theorem FunD.code(F:FunD K x qual st f fd dV){y:Str}(hm:mg y=some (.ref f)):zck K mg y fd.code:=by obtain⟨oc,od,kV,doc,pm,an,cdv,ct,osl,rfl,lk,hcd⟩:=F.ex;exact⟨f,_,_,hm,lk,rfl,rfl⟩
theorem FunD.okL(F:FunD K x qual st f fd dV){y:Str}(hm:mg y=some (.ref f))(S:FnScope N ps (zk st))
   (hbody:∀(cdv:Value),zck K mg y cdv->∀(A:Around) (outer:List Env) (s:Shared) (H:Hp) (E:XK),Room k (A.deeper (envOfC qual (zk st) s.heap.objs.size f cdv)) ->
     FSs (zg4 CX0 P w K mg base N qual (zk st) f cdv A outer s H E).nox (j6 st) b):FnOk P w K mg base CX0 (k+1) f fd ps (spG K mg (z9 N.length ps.length b)):=by
 have co:=F.code hm;obtain⟨oc,od,kV,doc,pm,an,cdv,ct,osl,rfl,lk,hcd⟩:=F.ex;refine zwm lk hcd S (fun vs H Q E h=>?_) fun A outer s H vs Q E hr hsp=>?_
 · obtain⟨ρ,ds,S,d,S',r,hS,hf,k⟩:=h;rw[<-r.length];exact zel hf
 · exact⟨_,(hbody cdv co A outer s H E hr).nox,zjx hsp⟩
abbrev z37(P:Program)(w:World)(K:Frag)(mg:zMg)(base:Heap)(N:List Str)(x qual:Str)(st:Stmt)(k:Nat)(b:C):Prop :=
 ∀(f:Addr) (cdv:Value),zck K mg x cdv->∀(A:Around) (outer:List Env) (s:Shared) (H:Hp) (E:XK),Room k (A.deeper (envOfC qual (zk st) s.heap.objs.size f cdv)) ->
     FSs (zg4 CX0 P w K mg base N qual (zk st) f cdv A outer s H E).nox (j6 st) b
theorem HasDef.calL(h:HasDef K mg x st 0)(S:FnScope N ps (zk st))(hb:zxk x x st ps)(hbody:z37 P w K mg base N x x st k b):Cal P w K mg base (k+1) x (z9 N.length ps.length b):=by obtain⟨f,fd,dV,F,hm,rfl⟩:=h.ex;exact⟨f,fd,ps,[],[],[],_,F.okL hm S fun cdv co A outer s H E hr=>hbody f cdv co A outer s H E hr,hm,F.kp,F.binds0 hb,.nil,fun _ _=>RepL.nil,fun args S r e=>by rw[z7h];exact e⟩
end
section
variable {K:Frag}{h:Heap}{mg:zMg} (X:K.In h) (G:h.Ns mainGlobals mg)
include X G
theorem has_tab{x:Str}{st:Stmt}{f c Q:Addr}{oc:Value}{od an:Option Addr}{osl:Array (Option Value)}{dV kV doc pm ct:Value}(a:nsIn K mainGlobals x=some (some (.ref f)))
   (l:K.lookup f=some ⟨oc,od,.func (fnOf x x (za9 st) (j6 st) (zk st) dV kV doc pm an (.ref c) ct),osl⟩) (z:codeHdIn K c Q=true):zw9 K mg x Q :=
 ⟨f,_,_,c,mg_of X G a,l,rfl,rfl,z⟩
end
end F
namespace F
open PySem L2 PySem.Spec PySem.Calls PyProof.Rows PySem.W
section
variable {X:Cx}{K:Frag}{mg:zMg}{e e1 e2 o:Expr}{f g h:E}{pos apos spos:Pos}
def zn9:V->List V->Hp->VK->Prop:=fun x vs H Q=>∃l xs i y,x=.ref l/\vs=[.int i,y]/\H l=some (.lst xs)/\0<=i/\i<=xs.length/\xs.length<sizeLine/\Q .non (upd H l (.lst (xs.take i.toNat++y::xs.drop i.toNat)))
theorem zo3:MtM X "list.insert" zn9:=by
 intro pins s σ H x vs v us Q I rx rv h;obtain⟨l,xs,i,y,rfl,rfl,hH,h0,h1,hz,q⟩:=h;cases rx;obtain⟨u1,u2,rfl,ru1,ru2⟩:∃u1 u2,us=[u1,u2]/\RelV (.int i) u1/\RelV y u2:=by
   cases rv with
   | cons a b=>cases b with
     |cons c d=>cases d;exact⟨_,_,rfl,a,c⟩
 obtain⟨t,rfl⟩:=ru1;obtain⟨z,its,n,r,hl,e⟩:=I.lstM hH;have hs:sizeLine=16777216:=z7z;have fit:¬ (!Builtin.List.listFitsIndex i)=true:=by have:=fitsIndex_both (k:=i) (by omega) (by omega);simp[this]
 refine call_meets qbw ⟨_,e,rfl⟩ PySem.F.entry_list_insert (PySem.F.args_list_insert_3 _ _ _) (AutoSeq1.list_insert_list_int_val_1 l its.toArray n i t u2 fit (by rw[z6v];omega)) ⟨e,?_⟩;refine⟨.non,_,I.lset (its':=its.take i.toNat++u2::its.drop i.toNat) hH e ?_ ((r.take _).append (.cons ru2 (r.drop _))) ?_,rfl,q⟩
 · have hk:(if i<0 then (i+(its.toArray.size:Int)).toNat else min i.toNat its.toArray.size)=i.toNat:=by rw[z7a (by omega),z6v];omega
   simp only[hk];apply qb4.mp;simp[z8w,List.extract_eq_drop_take,z7x]
 · rw[z6k,List.length_cons,z7e,z7f];omega
def eLm(op:List D->List D->Option (D×List D))(f:E)(a:As):E:=fun ev S=>(f ev S).bind fun p=>match p.1 with
 | .obj i=>(match p.2[i]? with
   | some (.lst _)=>(a ev p.2).bind fun q=>(match q.2[i]? with
     |some (.lst ds)=>(op ds q.1).map fun r=>(r.1,q.2.set i (.lst r.2))
     |_=>none)
   |_=>none)
 |_=>none
def z48(K:Frag)(mg:zMg)(r:V->List V->Hp->VK->Prop)(op:List D->List D->Option (D×List D)):Prop :=
 ∀(ρ:List Addr) (H:Hp) (S:Sto) (p:Addr) (us vs:List V) (ds args ds':List D) (d:D) (Q:VK),StOk K mg ρ H S->H p=some (.lst us)->RepL K mg ρ H ds us->RepL K mg ρ H args vs->op ds args=some (d,ds') ->
   (∀v us',RepL K mg ρ H ds' us'->Rep K mg ρ H d v->Q v (upd H p (.lst us')))->r (.ref p) vs H Q
theorem z3m{name:Str}{id:String}{r:V->List V->Hp->VK->Prop}{op:List D->List D->Option (D×List D)}{es:List Expr}{a:As}(hm:MtM X id r)(slot:Slot "list" name id)(hty:typeOf (.builtin id)=pure (.type "method_descriptor"))(ok:z48 X.K X.mg r op)(ho:FE X o f)(ha:FA X (e::es) a)
   (hbase:attributeBase o name X.env (eval o X.env)=eval o X.env:=by rfl)
   (hfew:((backTo pos (starEach (e::es) X.env)).all (fun x=>!x.1)&&(backToKw pos (keywordEach [] X.env)).all (fun x=>x.1.isSome)
     && decide ((e::es).length+([]:List Keyword).length+(if([]:List Keyword).isEmpty then 0 else 1)<30))=true:=by rfl)
   (hline:(apos.endLine==pos.line)=true:=by rfl) (hs:starEach (e::es) X.env=(false,eval e X.env)::starEach es X.env:=by exact qb rfl) (hplain:(backTo pos (starEach es X.env)).any (·.1)=false:=by exact jh rfl) :
   FE X (.Call (.Attribute o name apos) (e::es) [] pos) (eLm op f a) :=
 qy (zy6 qav slot hty hm ho ha hbase hfew hline hs hplain) fun σ H Q h=>by
   obtain⟨ρ,ev,S,d,S',hE,hS,hf,k⟩:=h;obtain⟨⟨x,S1⟩,q1,hf⟩:=zy hf;cases x with
   | obj i=>
     dsimp only at hf;split at hf
     · rename_i ds0 hd0;obtain⟨⟨as,S2⟩,q2,hf⟩:=zy hf;dsimp only at hf;split at hf
       · rename_i ds hd;obtain⟨⟨z,ds'⟩,q3,hf⟩:=zav hf;cases hf;refine⟨ρ,ev,S,_,S1,hE,hS,q1,fun v ρ1 H1 E1 hS1 r1=>?_⟩;have r1':=r1;unfold Rep at r1';obtain⟨p,rfl,hp⟩:=r1';obtain⟨us0,hu0,_⟩:=hS1.ob i _ p hd0 hp;refine⟨.inl ⟨rfl,_,SqL.of hu0⟩,ρ1,ev,S1,as,S2,hE.mono E1,hS1,q2,fun vs ρ2 H2 E2 hS2 r2=>?_⟩;have hp2:=E2.pre _ _ hp;obtain⟨us,h2,h3⟩:=hS2.ob i _ p hd hp2;refine ok ρ2 H2 S2 p us vs ds as ds' _ Q hS2 h2 h3 r2 q3 fun w us' r4 r5=>?_;have e0:=zbz hS2 (.lst us') hp2;exact k w ρ2 _ ((E1.trans E2).trans e0) (hS2.set hp2 ⟨_,qf,r4.mono e0⟩) (r5.mono e0)
       · cases hf
     · cases hf
   |_=>cases hf
def zbf(ds:List D):List D->Option (D×List D)
 | [.int i,x]=>if 0<=i/\i<=ds.length/\ds.length<sizeLine then some (.non,ds.take i.toNat++x::ds.drop i.toNat)else none
 |_=>none
theorem zpm:z48 K mg zn9 zbf:=by
 intro ρ H S p us vs ds args ds' d Q hS hp r ra e k;unfold zbf at e;split at e
 · rename_i i x;split at e
   · rename_i hc;cases e;obtain⟨v,w,rfl,r1,r2⟩:=two ra;obtain rfl:v=.int i:=r1;have hl:=r.length;exact⟨p,us,i,w,rfl,rfl,hp,hc.1,by rw[<-hl];exact hc.2.1,by rw[<-hl];exact hc.2.2,k _ _ ((r.take _).append (RepL.cons r2 (r.drop _))) rfl⟩
   · cases e
 · cases e
end
def cxC(P:Program)(w:World)(K:Frag)(mg:zMg)(base:Heap)(N:List Str)(qual:Str)(scope:Scope)(f:Addr)(cd:Value)(cl:zLA)(A:Around)(outer:List Env)(s:Shared)(H H1:Hp)(E:XK):Cx where
 prog:=P
 w:=w
 K:=K
 mg:=mg
 base:=base
 A:=A.deeper (envX qual scope s.heap.objs.size f cd cl)
 N:=N
 s₀:=s
 H₀:=H1
 env:=envX qual scope s.heap.objs.size f cd cl
 outer:=outer
 stack:=envX qual scope s.heap.objs.size f cd cl::outer
 ex:=[]
 calm:=true
 fn:=fun _=>false
 pn:=[]
 xe:=fun e s'=>wpAny (model P w) (A.deeper (envX qual scope s.heap.objs.size f cd cl)) (leaving (envX qual scope s.heap.objs.size f cd cl) e) (fun _ s''=>CX0 outer H s E e s'') (fun e' s''=>CX0 outer H s E e' s'') s'
def zb2(H:Hp)(cl:zLA):Hp:=fun b=>if b∈cl.map (·.2)then none else H b
theorem zcn{H:Hp}{cl:zLA}{b:Addr}(h:b∈cl.map (·.2)):zb2 H cl b=none:=z64 h
theorem jv{H:Hp}{cl:zLA}{b:Addr}(h:b∉cl.map (·.2)):zb2 H cl b=H b:=z7a h
theorem Cells.at{ρ:List Addr}{H:Hp}:∀{xs:List Str}{us:List V}{cl:zLA},Cells ρ H xs us cl->∀b∈cl.map (·.2),∃o w,H b=some (.frz o (.own 0))/\o.data=.cell (some w)
 | [],[],[],_,b,hb=>by cases hb
 | x::xs,u::us,p::cl,h,b,hb=>by
   rw[z65]at hb;rcases z6n.mp hb with rfl | hb
   · obtain⟨_,_,⟨o,w,h3,h4,_⟩,_⟩:=h;exact⟨o,w,h3,h4⟩
   · exact Cells.at h.2.2.2 b hb
 | [],[],_::_,h,_,_=>h.elim
 | [],_::_,_,h,_,_=>h.elim
 |_::_,[],_,h,_,_=>h.elim
 |_::_,_::_,[],h,_,_=>h.elim
theorem zjc{P:Program}{w:World}{H:Hp}{h:Heap}{cl:zLA}(x:HOk P w H h)(hc:∀b∈cl.map (·.2),∃o,H b=some (.frz o (.own 0))):HOk P w (zb2 H cl) h:=fun b u e=>by
 by_cases z:b∈cl.map (·.2)
 · rw[zcn z]at e;cases e
 · rw[jv z]at e;refine(x b u e).stay (fun _ _ _ q=>q) (fun d q=>?_) fun d xs q=>?_
   · rw[jv (fun y=>by obtain⟨o,y'⟩:=hc d y;rw[q]at y';cases y')];exact q
   · rw[jv (fun y=>by obtain⟨o,y'⟩:=hc d y;rw[q]at y';cases y')];exact q
theorem yg{H:Hp}{cl:zLA}{b:Addr}(h:H b=none):zb2 H cl b=none:=by
 unfold zb2;split
 · rfl
 · exact h
theorem Cells.names{ρ:List Addr}{H:Hp}:∀{xs:List Str}{us:List V}{cl:zLA},Cells ρ H xs us cl->cl.map (·.1)=xs/\us.length=xs.length
 | [],[],[],_=>⟨rfl,rfl⟩
 | x::xs,u::us,p::cl,h=>by obtain⟨h1,h2⟩:=Cells.names h.2.2.2;exact⟨by rw[z65,h1,h.1],by rw[List.length_cons,List.length_cons,h2]⟩
 | [],[],_::_,h=>h.elim
 | [],_::_,_,h=>h.elim
 |_::_,[],_,h=>h.elim
 |_::_,_::_,[],h=>h.elim
theorem Cells.get{ρ:List Addr}{H:Hp}:∀{xs:List Str}{us:List V}{cl:zLA},Cells ρ H xs us cl->xs.Nodup->∀(i:Nat) (x:Str) (u:V),xs[i]? = some x->us[i]? = some u->∃b o w,cl.lookup x=some b/\H b=some (.frz o (.own 0))/\o.data=.cell (some w)/\RelV u w
 | x::xs,u::us,p::cl,h,nd,0,y,v,e1,e2=>by cases e1;cases e2;obtain⟨h1,_,⟨o,w,h3,h4,h5⟩,_⟩:=h;exact⟨p.2,o,w,by obtain⟨a,b⟩:=p;subst h1;simp[List.lookup],h3,h4,h5⟩
 | x::xs,u::us,p::cl,h,nd,i+1,y,v,e1,e2=>by
   obtain⟨b,o,w,z1,z2⟩:=Cells.get h.2.2.2 (z9f.mp nd).2 i y v e1 e2;have ne:(y==p.1)=false:=by rw[h.1];refine beq_false_of_ne fun z=>(z9f.mp nd).1 ?_;rw[<-z];exact z7n e1
   refine⟨b,o,w,?_,z2⟩;obtain⟨a,c⟩:=p;simp only[List.lookup,ne];exact z1
 | [],[],[],_,_,_,_,_,e1,_=>by cases e1
 | [],[],_::_,h,_,_,_,_,_,_=>h.elim
 | [],_::_,_,h,_,_,_,_,_,_=>h.elim
 |_::_,[],_,h,_,_,_,_,_,_=>h.elim
 |_::_,_::_,[],h,_,_,_,_,_,_=>h.elim
structure CloScope (ps caps:List Str) (sc:Scope):Prop where
 kind:sc.kind=.function
 co:sc.isCoroutine=false
 gen:sc.isGenerator=false
 nd:(ps++caps).Nodup
 par:∀x∈ps,sc.names.lookup x=some .local
 cap:∀x∈caps,sc.names.lookup x=some .free
 nocell:∀y∈sc.names,y.2≠.cell
 fre:∀y∈sc.names,y.2=.free->y.1∈caps
theorem ze5:∀{ps:List Str}{us:List Value}{i:Nat}{x:Str}{u:Value},ps.Nodup->ps[i]? = some x->us[i]? = some u->(ps.zip us).reverse.lookup x=some u
 | [],_,_,_,_,_,e,_=>by cases e
 |p::ps,[],i,x,u,_,_,e=>by cases e
 | p::ps,w::us,i,x,u,nd,e1,e2=>by
   rw[List.zip_cons_cons,qad,List.lookup_append];cases i with
   | zero=>
     cases e1;cases e2;have:(ps.zip us).reverse.lookup p=none:=by rw[List.lookup_eq_none_iff];intro q hq;have:=(z9g (a:=q.1) (b:=q.2) (z86.mp hq)).1;simpa using fun(z:p=q.1)=>(z9f.mp nd).1 (z▸this)
     rw[this];simp[List.lookup]
   | succ i=>
     rw[ze5 (z9f.mp nd).2 e1 e2];rfl
theorem zmi{P:Program}{w:World}{K:Frag}{mg:zMg}{base:Heap}{ps caps:List Str}{qual:Str}{scope:Scope}{f:Addr}{cd:Value}{cl:zLA}{A:Around}{outer:List Env}{s:Shared}{H:Hp}{E:XK}{us:List Value}{vs cs:List V}{ρ:List Addr}{h':Heap}{tk:Nat}
   (S:CloScope ps caps scope) (hd:A.handled=none) (e0:Env0 P w K mg base A outer s H) (hl:vs.length=ps.length) (r:Vals vs us) (hc:Cells ρ H caps cs cl) (hcn:(cl.map (·.2)).Nodup)
   (hns:h'.Ns s.heap.objs.size (fun x=>(ps.zip us).reverse.lookup x)) (hk:∀b o,s.heap.get? b=some o->h'.get? b=some o) :
   Inv (cxC P w K mg base (ps++caps) qual scope f cd cl A outer s H (zb2 H cl) E) [] ((vs++cs).map some) (zb2 H cl) { s with heap:=h',toks:=tk }:=by
 have noA:∀b:Addr,b∉(cxC P w K mg base (ps++caps) qual scope f cd cl A outer s H (zb2 H cl) E).ex:=fun b z=>absurd (show b∈([]:List Addr)from z) (by simp);have hnm:=hc.names;have mem:∀{x:Str}{c:Addr},cl.lookup x=some c->(x,c)∈cl:=fun h=>mem_of_lookup_some h;have hcf:∀b∈cl.map (·.2),∃o,H b=some (.frz o (.own 0)):=fun b hb=>let⟨o,_,h1,_⟩:=hc.at b hb;⟨o,h1⟩;refine⟨⟨e0.mod,S.kind,rfl,rfl,z6l _,fun y z c h1 h2=>?_,fun y hy=>?_,fun y c h _=>(by cases h),fun _=>hd,Around.frames_deeper e0.frames,.inr ⟨rfl,rfl⟩,fun b z=>absurd z (noA b),fun b o e=>⟨(e0.bs b o e).1,yg (e0.bs b o e).2⟩,e0.bsz,fun b _ _=>noA b,fun b z=>absurd z (noA b),e0.funs,fun b hb=>yg (e0.frf b hb)⟩,
   rfl,e0.bare,Un.kept hk,⟨_,hns,fun i y v h1 h2 h3=>?_⟩,fun y c h=>?_,yg (e0.hok.fresh (z6l _)),fun y c h=>zcn (z8n (mem h)),fun p hp=>absurd (show p∈([]:zAO)from hp) (by simp),(zjc e0.hok hcf).kept hk,?_⟩
 · have m1:=mem h1;have m2:=mem h2;obtain⟨i,hi,ei⟩:=z7i m1;obtain⟨j,hj,ej⟩:=z7i m2;have:i=j:=(qb3 (i:=i) (j:=j) (h₀:=by simpa using hi) (h₁:=by simpa using hj) hcn).mp (by simp[ei,ej]);subst this;rw[ei]at ej;exact z8y Prod.fst ej
 · have hy:scope.names.lookup y=some .cell\/scope.names.lookup y=some .free:=hy;rcases hy with hy | hy
   · exact absurd rfl (S.nocell _ (z8z hy))
   · have hm:y∈caps:=S.fre _ (z8z hy) rfl;obtain⟨i,hi,ei⟩:=z7i hm;obtain⟨b,o,w,z,_⟩:=hc.get ((qaf.mp S.nd).2.1) i y (cs[i]'(by omega)) (by rw[z6s hi,ei]) (z6s _);exact⟨b,z⟩
 · rw[z72]at h2;have h1:(ps++caps)[i]? = some y:=h1;by_cases hi:i<ps.length
   · rw[z7d hi]at h1;rw[z7d (by omega)]at h2;cases hv:vs[i]? with
     |none=>rw[hv]at h2;cases h2
     | some a=>
       rw[hv]at h2;cases h2;obtain⟨u,hu,ru⟩:=r.get hv;exact⟨u,ru,.inl ⟨S.par y (z7n h1),ze5 (qaf.mp S.nd).1 h1 hu⟩⟩
   · rw[z6y (by omega)]at h1;rw[z6y (by omega),hl]at h2;cases hv:cs[i-ps.length]? with
     |none=>rw[hv]at h2;cases h2
     | some a=>
       rw[hv]at h2;cases h2;obtain⟨b,o,w,z1,z2,z3,z4⟩:=hc.get (qaf.mp S.nd).2.1 _ y _ h1 hv;exact⟨w,z4,.inr ⟨.inr (S.cap y (z7n h1)),b,z1,o,hk _ _ (e0.hok b _ z2).1,z3⟩⟩
 · obtain⟨o,w,z2,z3⟩:=hc.at c (z8n (mem h));exact⟨some w,o,hk _ _ (e0.hok c _ z2).1,z3⟩
 · show((vs++cs).map some).length=(ps++caps).length;rw[z8s,z6k,z6k,hl,hnm.2]
def onC(H H0:Hp)(cl:zLA):Hp:=fun b=>if b∈cl.map (·.2)then H0 b else H b
theorem zcc{H H0:Hp}{cl:zLA}{b:Addr}(h:b∈cl.map (·.2)):onC H H0 cl b=H0 b:=z64 h
theorem q0{H H0:Hp}{cl:zLA}{b:Addr}(h:b∉cl.map (·.2)):onC H H0 cl b=H b:=z7a h
theorem z2a{fs:List Addr}{H H':Hp}{h h':Heap}{cl:zLA}(u:Un fs [] (zb2 H cl) H' h h')(hc:∀b∈cl.map (·.2),∃o,H b=some (.frz o (.own 0))):Un fs [] H (onC H' H cl) h h':=by
 have out:∀b,H b=none->b∉cl.map (·.2):=fun b n z=>by obtain⟨o,y⟩:=hc b z;rw[n]at y;cases y
 refine⟨fun b o e n hb hx=>u.keep b o e (yg n) hb hx,fun b o e n hb hx=>u.slot b o e (yg n) hb hx,fun b o e n hx=>?_,u.there,fun b xs e=>?_,fun b o v e=>?_,fun b ps e=>?_⟩
 · rw[q0 (out b n)];exact u.free b o e (yg n) hx
 · have z:b∉cl.map (·.2):=fun z=>by obtain⟨o,y⟩:=hc b z;rw[e]at y;cases y
   rw[q0 z];exact u.tups b xs (by rw[jv z];exact e)
 · by_cases z:b∈cl.map (·.2)
   · rw[zcc z];exact e
   · rw[q0 z];exact u.frzs b o v (by rw[jv z];exact e)
 · have z:b∉cl.map (·.2):=fun z=>by obtain⟨o,y⟩:=hc b z;rw[e]at y;cases y
   obtain⟨more,q⟩:=u.tbls b ps (by rw[jv z];exact e);exact⟨more,by rw[q0 z];exact q⟩
theorem z0c{P:Program}{w:World}{fs:List Addr}{H H':Hp}{h h':Heap}{cl:zLA}(u:Un fs [] (zb2 H cl) H' h h')(x0:HOk P w H h)(x:HOk P w H' h')(hc:∀b∈cl.map (·.2),(∃o,H b=some (.frz o (.own 0)))/\b∉fs):HOk P w (onC H' H cl) h':=fun b v e=>by
 have nn:∀d∈cl.map (·.2),H' d=none:=fun d hd=>by obtain⟨⟨o,z⟩,_⟩:=hc d hd;exact u.free d o (x0 d _ z).1 (zcn hd) (by simp)
 by_cases z:b∈cl.map (·.2)
 · rw[zcc z]at e;obtain⟨⟨o,y⟩,nf⟩:=hc b z;rw[y]at e;cases e;have:=u.keep b o (x0 b _ y).1 (zcn z) nf (by simp);exact⟨this,⟨o,this⟩⟩
 · rw[q0 z]at e;refine(x b v e).stay (fun _ _ _ q=>q) (fun d q=>?_) fun d xs q=>?_
   · rw[q0 (fun y=>by rw[nn d y]at q;cases q)];exact q
   · rw[q0 (fun y=>by rw[nn d y]at q;cases q)];exact q
mutual
def noC:D->Bool
 | .tup ds=>noCL ds
 | .lst ds=>noCL ds
 | .clo _ _=>false
 |_=>true
def noCL:List D->Bool
 | []=>true
 |d::ds=>noC d&&noCL ds
end
def zij:MO->Bool
 | .lst ds=>noCL ds
 | .ins _ fs=>noCL (fs.map (·.2))
 | .dct kvs=>noCL (kvs.map (·.2))
 | .exc _=>true
 | .tab _ _=>true
def noCS(S:Sto):Bool:=S.all zij
section
variable {K:zFr}{mg:zMg}{ρ ρ':List Addr}{H H':Hp}{S S1:Sto}{cl:zLA}
def CellsIn(H:Hp)(cl:zLA):Prop:=∀b∈cl.map (·.2),∃o,H b=some (.frz o (.own 0))
theorem CellsIn.out(hc:CellsIn H cl){b:Addr}{u:HO}(h:H b=some u)(n:∀o,u≠.frz o (.own 0)):zb2 H cl b=some u:=by rw[jv (fun z=>by obtain⟨o,y⟩:=hc b z;rw[h]at y;exact n o (z7s y))];exact h
theorem TupAt.off{p:Addr}{vs:List V}(hc:CellsIn H cl)(h:TupAt K ρ H p vs):TupAt K ρ (zb2 H cl) p vs:=by
 rcases h with⟨n,h | ⟨o,h⟩⟩ | h
 · exact .inl ⟨n,.inl (hc.out h fun _ z=>by cases z)⟩
 · exact .inl ⟨n,.inr ⟨o,hc.out h fun _ z=>by cases z⟩⟩
 · exact .inr h
theorem LstAt.off{p:Addr}{vs:List V}(hc:CellsIn H cl)(h:LstAt K ρ H p vs):LstAt K ρ (zb2 H cl) p vs:=by
 rcases h with⟨n,h | ⟨o,h⟩⟩ | h
 · exact .inl ⟨n,.inl (hc.out h fun _ z=>by cases z)⟩
 · exact .inl ⟨n,.inr ⟨o,hc.out h fun _ z=>by cases z⟩⟩
 · exact .inr h
mutual
theorem Rep.off(hc:CellsIn H cl):∀{d:D}{v:V},noC d=true->Rep K mg ρ H d v->Rep K mg ρ (zb2 H cl) d v
 | .non,_,_,h=>h
 | .bl _,_,_,h=>h
 | .int _,_,_,h=>h
 | .str _,_,_,h=>h
 | .fn _,_,_,h=>h
 | .ty _,_,_,h=>h
 | .tup ds,_,hb,h=>by unfold Rep at h ⊢;unfold noC at hb;obtain⟨p,vs,e1,t,r⟩:=h;exact⟨p,vs,e1,t.off hc,RepL.off hc hb r⟩
 | .lst ds,_,hb,h=>by unfold Rep at h ⊢;unfold noC at hb;obtain⟨p,vs,e1,t,r⟩:=h;exact⟨p,vs,e1,t.off hc,RepL.off hc hb r⟩
 | .obj i,_,hb,h=>by unfold Rep at h ⊢;exact h
 | .lam t,_,_,h=>by unfold Rep at h ⊢;obtain⟨a,e1,n1,c,pm,ct,n2,h1,h2⟩:=h;exact⟨a,e1,n1,c,pm,ct,n2,hc.out h1 (fun _ z=>by cases z),hc.out h2 (fun _ z=>by cases z)⟩
 | .clo t vs,_,hb,h=>by unfold noC at hb;cases hb
theorem RepL.off(hc:CellsIn H cl):∀{ds:List D}{vs:List V},noCL ds=true->RepL K mg ρ H ds vs->RepL K mg ρ (zb2 H cl) ds vs
 | [],_,_,h=>h
 | d::ds,_,hb,h=>by unfold RepL at h ⊢;unfold noCL at hb;obtain⟨v,r,e,h1,h2⟩:=h;obtain⟨b1,b2⟩:=Bool.and_eq_true_iff.mp hb;exact⟨v,r,e,Rep.off hc b1 h1,RepL.off hc b2 h2⟩
end
theorem MOk.off{a:Addr}{m:MO}(hc:CellsIn H cl)(hb:zij m=true)(h:MOk K mg ρ H a m):MOk K mg ρ (zb2 H cl) a m:=by
 cases m with
 |lst ds=>obtain⟨vs,h1,h2⟩:=h;exact⟨vs,hc.out h1 (fun _ z=>by cases z),h2.off hc hb⟩
 |ins c fs=>obtain⟨C,dx,vs,h0,h1,h2,h3⟩:=h;exact⟨C,dx,vs,h0,hc.out h1 (fun _ z=>by cases z),h2,h3.off hc hb⟩
 |dct kvs=>obtain⟨vs,h1,h2,h3⟩:=h;exact⟨vs,hc.out h1 (fun _ z=>by cases z),h2,h3.off hc hb⟩
 |exc c=>obtain⟨C,h1,h2⟩:=h;exact⟨C,h1,hc.out h2 (fun _ z=>by cases z)⟩
 |tab x q=>obtain⟨h0,ps,h1,h2,h3⟩:=h;exact⟨h0,ps,hc.out h1 (fun _ z=>by cases z),h2,fun pos cv z=>let⟨c,z1,z2,z3⟩:=h3 pos cv z;⟨c,z1,z2,hc.out z3 (fun _ z=>by cases z)⟩⟩
theorem StOk.off(hS:StOk K mg ρ H S)(hc:CellsIn H cl)(hb:noCS S=true):StOk K mg ρ (zb2 H cl) S :=
 ⟨hS.len,hS.nd,fun i m a e1 e2=>(hS.ob i m a e1 e2).off hc (z7v.mp hb m (z7n e1))⟩
theorem Ext.on(e:Ext ρ (zb2 H cl) ρ' H')(hS:StOk K mg ρ' H' S1)(nn:∀b∈cl.map (·.2),H' b=none)(no:∀b∈cl.map (·.2),b∉ρ):Ext ρ H ρ' (onC H' H cl):=by
 refine⟨e.pre,fun b o h n=>?_,fun b h n=>?_⟩
 · by_cases z:b∈cl.map (·.2)
   · rw[zcc z];exact h
   · rw[q0 z];exact e.keep b o (by rw[jv z];exact h) n
 · by_cases z:b∈cl.map (·.2)
   · obtain⟨o,y⟩:=hS.mem h;rw[nn b z]at y;cases y
   · rw[<-jv (H:=H) z];exact e.new b h n
theorem zt8(nn:∀b∈cl.map (·.2),H' b=none):Ext ρ' H' ρ' (onC H' H cl) :=
 ⟨fun _ _ e=>e,fun b o h n=>by
   rw[q0 (fun z=>by rw[nn b z]at h;cases h)];exact h,fun _ z n=>absurd z n⟩
theorem StOk.on(hS:StOk K mg ρ' H' S1)(nn:∀b∈cl.map (·.2),H' b=none):StOk K mg ρ' (onC H' H cl) S1 :=
 ⟨hS.len,hS.nd,fun i m a e1 e2=>by
   have q:=hS.ob i m a e1 e2;obtain⟨u,z⟩:=q.some;exact q.mono (zt8 nn) (q0 (fun y=>by rw[nn a y]at z;cases z))⟩
theorem Cells.out:∀{xs:List Str}{us:List V}{cl:zLA},Cells ρ H xs us cl->∀b∈cl.map (·.2),b∉ρ
 | [],[],[],_,b,hb=>by cases hb
 | x::xs,u::us,p::cl,h,b,hb=>by
   rw[z65]at hb;rcases z6n.mp hb with rfl | hb
   · exact h.2.1
   · exact Cells.out h.2.2.2 b hb
 | [],[],_::_,h,_,_=>h.elim
 | [],_::_,_,h,_,_=>h.elim
 |_::_,[],_,h,_,_=>h.elim
 |_::_,_::_,[],h,_,_=>h.elim
theorem Cells.cin{xs:List Str}{us:List V}(h:Cells ρ H xs us cl):CellsIn H cl:=fun b hb=>let⟨o,_,h1,_⟩:=h.at b hb;⟨o,h1⟩
end
def znr(K:zFr)(mg:zMg)(t:LT)(a c:Addr)(pm ct:Value)(cl:zLA)(g:G):Sp:=fun vs H Q _=>∃ρ ds S d S' us kv,RepL K mg ρ H ds vs/\StOk K mg ρ H S/\H a=some (.ext (zms t cl a c pm ct))/\H c=some (.ext (zad c t.qual))/\(cl.map (·.2)).Nodup/\Cells ρ H t.caps us cl/\RepL K mg ρ H kv us /\
 (noCL ds&&noCL kv&&noCS S)=true/\g (ds++kv) S=some (d,S')/\ds.length=t.params.args.length/\∀v ρ' H',Ext ρ H ρ' H'->StOk K mg ρ' H' S'->Rep K mg ρ' H' d v->Q v H'
section
variable {P:Program}{w:World}{K:Frag}{mg:zMg}{base:Heap}{k:Nat}{t:LT}{ps:List Str}{f:E}
theorem z1c(S:CloScope ps t.caps t.scope)(hpl:ps.length=t.params.args.length)(a c:Addr)(pm ct:Value)(cl:zLA)
   (hbody:∀(A:Around) (outer:List Env) (s:Shared) (H H1:Hp) (E:XK),Room k (A.deeper (envX t.qual t.scope s.heap.objs.size a (.ref c) cl))->FE (cxC P w K mg base (ps++t.caps) t.qual t.scope a (.ref c) cl A outer s H H1 E).nox t.body f) :
   FnOk P w K mg base CX0 (k+1) a (kla_fn "<lambda>" t.qual t.params t.body t.scope cl pm (.ref c) ct) ps (znr K mg t a c pm ct cl (zcs (ps++t.caps).length (ps++t.caps).length f)):=by
 have len:∀vs H Q E,znr K mg t a c pm ct cl (zcs (ps++t.caps).length (ps++t.caps).length f) vs H Q E->vs.length=ps.length:=fun vs H Q E h=>by obtain⟨ρ,ds,S,d,S',us,kv,r,_,_,_,_,_,_,_,_,hl,_⟩:=h;rw[<-r.length,hl,hpl]
 refine⟨len,fun A outer s H args us vs Q E hr e0 hb r hsp=>?_⟩;have hl:=len _ _ _ _ hsp;obtain⟨ρ,ds,S0,d,S',cs,kv,rr,hS,hA,hC,hnd,hcs,rk,hno,hf,hdl,kk⟩:=hsp;have lim:s.heap.NoLimit:=e0.mod.nolimit.keeps fun b o e=>(e0.bs b o e).1;have ho:s.heap.get? a=some (kla_obj "<lambda>" t.qual t.params t.body t.scope cl pm c ct):=(e0.hok a _ hA).1;have hcd:s.heap.CodeRec (.ref c) t.qual:=(e0.hok c _ hC).1;have hloc:∀y∈ps.zip us,t.scope.names.lookup y.1=some .local:=fun⟨n,v⟩ hy=>S.par n (z9g hy).1;refine kla_callFunE hr.depth ho rfl S.co S.gen rfl hcd (hb _ _ _ _ ?_);refine wpAny_newFunctionEnv S.nocell hloc (fun h₁ hns hsb=>⟨lim.fresh _ hsb,?_⟩) S.kind;show codeAny _ _ (.expr t.body (envX t.qual t.scope s.heap.objs.size a (.ref c) cl)) _ _;have hk₁:∀b o,s.heap.get? b=some o->h₁.get? b=some o:=fun b o e=>hsb.extBut b o (z7b (z69 e)) (z6u _ e);refine kla_codeExpr ?_;have I:=zmi (qual:=t.qual) (f:=a) (cd:=.ref c) (E:=E) (tk:=s.toks+(ps.zip us).length) S hr.hd e0 hl r hcs hnd hns hk₁;have cin:=hcs.cin;rw[z8e,z8e]at hno;obtain⟨⟨n1,n2⟩,n3⟩:=hno;unfold zcs at hf;split at hf
 · rename_i hlen;have hpe:=(hbody A outer s H (zb2 H cl) E (hr.deeper _)).nox;have rs:RepL K mg ρ (zb2 H cl) (ds++kv) (vs++cs):=(rr.off cin n1).append (rk.off cin n2);have ev:EnvR K mg ρ (zb2 H cl) ((ds++kv).map some) ((vs++cs).map some):=by
     refine⟨by rw[z8s,z8s,rs.length],fun i x q=>?_⟩;rw[z72]at q ⊢;cases hx:(ds++kv)[i]? with
     |none=>rw[hx]at q;cases q
     | some y=>
       rw[hx]at q;cases q;obtain⟨v,e1,r1⟩:=rs.get hx;exact⟨v,by rw[e1];rfl,r1⟩
   rw[hlen,z9v,List.replicate_zero,z7h]at hf;have hb2:∀b∈cl.map (·.2),(∃o,H b=some (.frz o (.own 0)))/\b∉frs outer:=fun b hb=>⟨cin b hb,fun z=>by
     obtain⟨o,y⟩:=cin b hb;rw[e0.frf b z]at y;cases y⟩
   refine z8o (hpe [] _ ((vs++cs).map some) (zb2 H cl) (fun v H'=>(∀b∈cl.map (·.2),H' b=none)->Q v (onC H' H cl)) I ⟨ρ,_,S0,d,S',ev,hS.off cin n3,hf,fun v ρ' H' E' hS' r' nn=>?_⟩) (fun v s' hs=>?_) fun e s' hs=>hs
   · exact kk v ρ' _ (E'.on hS' nn hcs.out) (hS'.on nn) (r'.mono (zt8 nn))
   · obtain⟨v',H',J,rv,q⟩:=hs;have un:Un (frs outer) [] (zb2 H cl) H' s.heap s'.heap:=J.base;have nn:∀b∈cl.map (·.2),H' b=none:=fun b hb=>by obtain⟨⟨o,z⟩,_⟩:=hb2 b hb;exact un.free b o (e0.hok b _ z).1 (zcn hb) (by simp)
     exact⟨v',onC H' H cl,J.os,J.bare,z2a un cin,z0c un e0.hok J.hok hb2,rv,q nn⟩
 · cases hf
structure CCal (P:Program) (w:World) (K:Frag) (mg:zMg) (base:Heap) (k:Nat) (t:LT) (g:G):Prop where
 ex:∃ps:List Str,(∀(a c:Addr) (pm ct:Value) (cl:zLA),FnOk P w K mg base CX0 k a (kla_fn "<lambda>" t.qual t.params t.body t.scope cl pm (.ref c) ct) ps (znr K mg t a c pm ct cl g)) /\
   ∀(c:Addr) (pm ct:Value) (cl:zLA),Binds K (kla_fn "<lambda>" t.qual t.params t.body t.scope cl pm (.ref c) ct) ps []
theorem CCal.mono{j:Nat}{g:G}(c:CCal P w K mg base j t g)(h:j<=k):CCal P w K mg base k t g :=
 let⟨ps,F,b⟩:=c.ex;⟨ps,fun a c pm ct cl=>(F a c pm ct cl).mono h,b⟩
theorem CCal.of(S:CloScope ps t.caps t.scope)(hpl:ps.length=t.params.args.length)(hb:∀(c:Addr) (pm ct:Value) (cl:zLA) (us:List Value),us.length=ps.length->bindArgs (kla_fn "<lambda>" t.qual t.params t.body t.scope cl pm (.ref c) ct) ⟨us,[]⟩=pure (ps.zip us))
   (hbody:∀(a c:Addr) (cl:zLA) (A:Around) (outer:List Env) (s:Shared) (H H1:Hp) (E:XK),Room k (A.deeper (envX t.qual t.scope s.heap.objs.size a (.ref c) cl))->FE (cxC P w K mg base (ps++t.caps) t.qual t.scope a (.ref c) cl A outer s H H1 E).nox t.body f) :
   CCal P w K mg base (k+1) t (zcs (ps++t.caps).length (ps++t.caps).length f) :=
 ⟨ps,fun a c pm ct cl=>z1c S hpl a c pm ct cl (hbody a c cl),fun c pm ct cl=>.all (hb c pm ct cl)⟩
end
def za8(ft:Str->Option G)(lt ct:LT->Option G)(f:E)(a:As):E:=fun ev S=>(f ev S).bind fun p=>match p.1 with
 | .fn x=>(ft x).bind fun g=>(a ev p.2).bind fun q=>g q.1 q.2
 | .lam t=>(lt t).bind fun g=>(a ev p.2).bind fun q=>g q.1 q.2
 | .clo t vs=>(ct t).bind fun g=>(a ev p.2).bind fun q=>if(noCL q.1&&noCL vs&&noCS q.2)=true/\q.1.length=t.params.args.length then g (q.1++vs) q.2 else none
 |_=>none
section
variable {X:Cx}{k:Nat}{f:E}{a:As}{e:Expr}{es:List Expr}{pos:Pos}
theorem zdc{fe:Expr}{ft:Str->Option G}{lt ct:LT->Option G}(hT:∀x g,ft x=some g->Cal X.prog X.w X.K X.mg X.base k x g)(hL:∀t g,lt t=some g->LCal X.prog X.w X.K X.mg X.base k t g)(hC:∀t g,ct t=some g->CCal X.prog X.w X.K X.mg X.base k t g)(hr:Room k X.A)(hf:FE X fe f)(ha:FA X (e::es) a)
   (ht:eval (.Call fe (e::es) [] pos) X.env=(eval fe X.env >>= fun v=>callWith pos v [] (backTo pos (starEach (e::es) X.env)) (backToKw pos (keywordEach [] X.env))):=by rfl)
   (he:starEach (e::es) X.env=(false,eval e X.env)::starEach es X.env:=by exact qb rfl) (hpl:(backTo pos (starEach es X.env)).any (·.1)=false:=by exact jh rfl) :
   FE X (.Call fe (e::es) [] pos) (za8 ft lt ct f a):=by
 intro pins s σ H Q I h;obtain⟨ρ,ev,S,d,S',hE,hS,hf',kk⟩:=h;obtain⟨⟨y,S1⟩,q1,hf'⟩:=zy hf';cases y with
 | fn x=>
   refine zbn (ft:=ft) (lt:=lt) hT hL hr hf ha ht he hpl pins s σ H Q I ⟨ρ,ev,S,d,S',hE,hS,?_,kk⟩;unfold zac;rw[q1];exact hf'
 | lam t=>
   refine zbn (ft:=ft) (lt:=lt) hT hL hr hf ha ht he hpl pins s σ H Q I ⟨ρ,ev,S,d,S',hE,hS,?_,kk⟩;unfold zac;rw[q1];exact hf'
 | clo t kv=>
   rw[ht];dsimp only at hf';obtain⟨g,hx,hf'⟩:=zy hf';obtain⟨⟨ds,S2⟩,q2,hf'⟩:=zy hf';dsimp only at hf';split at hf'
   · rename_i hno;obtain⟨hno,hlen⟩:=hno;obtain⟨ps,F,hb⟩:=(hC t g hx).ex;refine z6m (thn (hf pins s σ H (fun v H1=>∃ρ1 a0 us,v=.ref a0/\Ext ρ H ρ1 H1/\StOk X.K X.mg ρ1 H1 S1/\CloAt ρ1 H1 t us a0/\RepL X.K X.mg ρ1 H1 kv us) I ⟨ρ,ev,S,_,S1,hE,hS,q1,fun v ρ1 H1 E1 hS1 r1=>?_⟩) fun u s1 ⟨v,H1,I1,rv,ρ1,a0,us,ev1,E1,hS1,L1,rk⟩=>?_)
     · unfold Rep at r1;obtain⟨b,us,rfl,L,rk⟩:=r1;exact⟨ρ1,b,us,rfl,E1,hS1,L,rk⟩
     · subst ev1;obtain rfl:u=Value.ref a0:=rv;obtain⟨n0,c,pm,ctv,cl,nc,hA,hC,hnd,hcs⟩:=L1;have at_:∀{H':Hp}{s':Shared},Inv X pins σ H' s'->H' a0=some (.ext (zms t cl a0 c pm ctv))->FnAt a0 s'.heap:=fun J e=>⟨_,_,_,_,(J.hok a0 _ e).1⟩
       refine callWith_F (at_ I1 hA) (thn (ha pos pins s1 σ H1 (fun vs H2=>(H2 a0=some (.ext (zms t cl a0 c pm ctv)))/\znr X.K X.mg t a0 c pm ctv cl g vs H2 Q E0) I1 ⟨ρ1,ev,S1,ds,S2,hE.mono E1,hS1,q2,fun vs ρ2 H2 E2 hS2 r2=>?_⟩) fun us s2 ⟨vs,H2,I2,r,hA2,q2⟩=>⟨at_ I2 hA2,?_⟩) he hpl
       · have h1:=E2.keep _ _ hA n0;have h2:=E2.keep _ _ hC nc;exact⟨h1,ρ2,ds,S2,d,S',us,kv,r2,hS2,h1,h2,hnd,hcs.mono E2,rk.mono E2,hno,hf',hlen,fun v ρ' H' E' hS' r'=>kk v ρ' H' ((E1.trans E2).trans E') hS' r'⟩
       · exact ze4 (ds:=[]) (dvs:=[]) (F a0 c pm ctv cl) hr (hb c pm ctv cl) .nil ziz I2 r (by rw[z7h];exact q2)
   · cases hf'
 |_=>cases hf'
end
end F
namespace F
open PySem L2 PySem.Spec PySem.Calls PyProof.Rows PySem.W
def zh2(ev:Ev):List Nat->Option (List D)
 | []=>some []
 | i::is=>match ev[i]? with
   |some (some d)=>(zh2 ev is).map (d::·)
   |_=>none
structure CapsOk (X:Cx) (t:LT) (cl:zLA) (is:List Nat):Prop where
 clo:closureFor t.scope X.env=pure cl
 names:cl.map (·.1)=t.caps
 look:∀p∈cl,X.env.cells.lookup p.1=some p.2
 nd:t.caps.Nodup
 at_:is.map (fun i=>X.N[i]?)=t.caps.map some
 kind:∀x∈t.caps,X.env.scope.names.lookup x=some .cell
 fn:∀x∈t.caps,X.fn x=true
def trk(H:Hp)(h:Heap)(cl:zLA):Hp:=onC H (fun b=>(h.get? b).map fun o=>.frz o (.own 0)) cl
section
variable {X:Cx}{pins:zAO}{σ:L2.St}{H H':Hp}{s:Shared}{t:LT}{cl:zLA}{is:List Nat}{ρ:List Addr}{ev:Ev}{S:Sto}
theorem CapsOk.hn(C:CapsOk X t cl is)(I:Inv X pins σ H s):∀b∈cl.map (·.2),H b=none:=fun b hb=>by obtain⟨p,hp,rfl⟩:=z9k.mp hb;exact I.freeC _ _ (C.look p hp)
theorem CapsOk.isc(C:CapsOk X t cl is)(I:Inv X pins σ H s):∀b∈cl.map (·.2),∃o v,s.heap.get? b=some o/\o.data=.cell v:=fun b hb=>by obtain⟨p,hp,rfl⟩:=z9k.mp hb;obtain⟨v,o,h1,h2⟩:=I.cell _ _ (C.look p hp);exact⟨o,v,h1,h2⟩
theorem CapsOk.cin(C:CapsOk X t cl is)(I:Inv X pins σ H s):CellsIn (trk H s.heap cl) cl:=fun b hb=>by obtain⟨o,v,h1,_⟩:=C.isc I b hb;exact⟨o,by unfold trk;rw[zcc hb,h1];rfl⟩
theorem CapsOk.nodup(C:CapsOk X t cl is)(I:Inv X pins σ H s):(cl.map (·.2)).Nodup:=by have nd:(cl.map (·.1)).Nodup:=C.names▸C.nd;unfold List.Nodup at nd ⊢;rw[qa1]at nd ⊢;refine nd.imp_of_mem fun {p q} hp hq ne e=>ne ?_;exact I.ok.inj _ _ p.2 (C.look p hp) (by rw[C.look q hq,e])
theorem CapsOk.ext(C:CapsOk X t cl is)(I:Inv X pins σ H s):Ext ρ H ρ (trk H s.heap cl) :=
 ⟨fun _ _ e=>e,fun b o h n=>by
   unfold trk;rw[q0 (fun z=>by rw[C.hn I b z]at h;cases h)];exact h,fun _ z n=>absurd z n⟩
theorem CapsOk.st(C:CapsOk X t cl is)(I:Inv X pins σ H s)(hS:StOk X.K X.mg ρ H S):StOk X.K X.mg ρ (trk H s.heap cl) S :=
 hS.on (C.hn I)
theorem CapsOk.hok(C:CapsOk X t cl is)(I:Inv X pins σ H s):HOk X.prog X.w (trk H s.heap cl) s.heap:=fun b u e=>by
 unfold trk at e;by_cases z:b∈cl.map (·.2)
 · obtain⟨o,v,h1,_⟩:=C.isc I b z;rw[zcc z,h1]at e;cases e;exact⟨h1,⟨o,h1⟩⟩
 · rw[q0 z]at e;refine(I.hok b u e).stay (fun _ _ _ q=>q) (fun d q=>?_) fun d xs q=>?_
   · unfold trk;rw[q0 (fun y=>by rw[C.hn I d y]at q;cases q)];exact q
   · unfold trk;rw[q0 (fun y=>by rw[C.hn I d y]at q;cases q)];exact q
theorem CapsOk.env0(C:CapsOk X t cl is)(I:Inv X pins σ H s):Env0 X.prog X.w X.K X.mg X.base X.A X.stack s (trk H s.heap cl):=by
 have e:=I.env0;refine⟨e.frames,e.mod,fun b o h=>⟨(e.bs b o h).1,?_⟩,e.bsz,e.funs,fun b hb=>?_,C.hok I,e.bare⟩
 · unfold trk;rw[q0];exact(e.bs b o h).2;intro z;obtain⟨p,hp,rfl⟩:=z9k.mp z;have:=I.ok.cab p.1 p.2 (C.fn _ (C.names▸z8n hp)) (C.look p hp);rw[qba (z67 I.ok.bsz this)]at h;cases h
 · unfold trk;rw[q0];exact e.frf b hb;intro z;obtain⟨p,hp,rfl⟩:=z9k.mp z;rcases z6n.mp (I.stkSub _ hb)with y | y
   · exact I.cne _ _ (C.look p hp) y
   · obtain⟨_,o',h3,_⟩:=I.ok.funs.mem y;have:=I.ok.cab p.1 p.2 (C.fn _ (C.names▸z8n hp)) (C.look p hp);exact absurd (z69 h3) (z92.mpr this)
theorem zeg(C:CapsOk X t cl is)(I:Inv X pins σ H s)(hE:EnvR X.K X.mg ρ H ev σ)(hS:StOk X.K X.mg ρ H S) :
   ∀(cl':zLA) (js:List Nat) (vs:List D),(∀p∈cl',p∈cl)->js.map (fun i=>X.N[i]?)=cl'.map (fun p=>some p.1)->zh2 ev js=some vs->∃us,Cells ρ (trk H s.heap cl) (cl'.map (·.1)) us cl'/\RepL X.K X.mg ρ H vs us
 | [],[],vs,_,_,h=>by cases h;exact⟨[],trivial,RepL.nil⟩
 | [],_::_,_,_,e,_=>by cases e
 |_::_,[],_,_,e,_=>by cases e
 | p::cl',i::js,vs,hm,e,h=>by
   rw[z65,z65]at e;obtain⟨e1,e2⟩:=z9x e;unfold zh2 at h;split at h
   · rename_i d hd;obtain⟨vs',hv,h⟩:=zav h;subst h;obtain⟨us,c1,r1⟩:=zeg C I hE hS cl' js vs' (fun q hq=>hm q (z6r _ hq)) e2 hv;obtain⟨v,hσ,rd⟩:=hE.at_ i d hd;obtain⟨m,hns,hl⟩:=I.loc;have hp:=hm p z6w;have hpm:p.1∈t.caps:=C.names▸z8n hp;have kd:=C.kind _ hpm;obtain⟨u,ru,lk⟩:=hl i p.1 v e1 hσ (.inr (.inl kd));have hb:p.2∈cl.map (·.2):=z8n hp;refine⟨v::us,⟨rfl,hS.fresh (C.hn I _ hb),?_,c1⟩,RepL.cons rd r1⟩;rcases lk with⟨k1,_⟩ | ⟨_,c,z1,o,z2,z3⟩
     · have:X.env.scope.names.lookup p.1=some .local:=k1;rw[kd]at this;cases this
     · rw[C.look p hp]at z1;cases z1;exact⟨o,u,by unfold trk;rw[zcc hb,z2];rfl,z3,ru⟩
   · cases h
theorem ztd{fs:List Addr}{h h':Heap}(hn:∀b∈cl.map (·.2),H b=none)(u:Un fs [] (trk H h cl) H' h h')(x:∀b∈cl.map (·.2),∃o,h.get? b=some o)(y:∀b o w,H' b=some (.frz o w)->h'.get? b=some o):Un fs [] H (zb2 H' cl) h h':=by
 have out:∀b,b∉cl.map (·.2)->trk H h cl b=H b:=fun b z=>q0 z;have kp:∀b∈cl.map (·.2),∀o,h.get? b=some o->h'.get? b=some o:=fun b hb o e=>y b o (.own 0) (u.frzs b o _ (by unfold trk;rw[zcc hb,e];rfl));have ne:∀b v,H b=some v->b∉cl.map (·.2):=fun b v e z=>by rw[hn b z]at e;cases e
 refine⟨fun b o e n hb hx=>?_,fun b o e n hb hx=>?_,fun b o e n hx=>?_,u.there,fun b xs e=>?_,fun b o v e=>?_,fun b ps e=>?_⟩
 · by_cases z:b∈cl.map (·.2)
   · exact kp b z o e
   · exact u.keep b o e (by rw[out b z];exact n) hb hx
 · by_cases z:b∈cl.map (·.2)
   · exact⟨o.slots,kp b z o e⟩
   · exact u.slot b o e (by rw[out b z];exact n) hb hx
 · by_cases z:b∈cl.map (·.2)
   · exact zcn z
   · exact yg (u.free b o e (by rw[out b z];exact n) hx)
 · rw[jv (ne b _ e)];exact u.tups b xs (by rw[out b (ne b _ e)];exact e)
 · rw[jv (ne b _ e)];exact u.frzs b o v (by rw[out b (ne b _ e)];exact e)
 · obtain⟨more,q⟩:=u.tbls b ps (by rw[out b (ne b _ e)];exact e);exact⟨more,by rw[jv (ne b _ e)];exact q⟩
theorem zpl{c:Addr}{pm ct:Value}{h':Heap}{tk:Nat}(I:Inv X pins σ H s)(hk:∀b o,s.heap.get? b=some o->h'.get? b=some o)(hsz:s.heap.objs.size<=h'.objs.size) :
   Inv X pins σ (upd H h'.objs.size (.ext (zms t cl h'.objs.size c pm ct))) { s with heap:=h'.push (kla_obj "<lambda>" t.qual t.params t.body t.scope cl pm c ct),toks:=tk }:=by
 refine I.laid (t':=tk) (fun b o e=>z6u _ (hk b o e)) hsz ?_;refine⟨z7j _ rfl,⟨_,z7j _ rfl⟩,fun h1 h2 p k=>k _ p⟩
def z4f(K:Frag)(mg:zMg)(j:Nat)(x:Str)(t:LT)(cl:zLA):TE:=fun σ H Q=>∃ρ S,StOk K mg ρ H S/\S[j]? = some (.tab x t.qual) /\
 ∀a c pm ct H',Ext ρ H ρ H'->StOk K mg ρ H' S->a∉ρ->c∉ρ->H' a=some (.ext (zms t cl a c pm ct))->H' c=some (.ext (zad c t.qual))->Q (.ref a) H'
theorem zy4{x:Str}{params:Arguments}{body:Expr}{scope:Scope}{pos:Pos}{caps:List Str}(j:Nat)(hcd:zck X.K X.mg x X.env.code)(hb:zm5 X.base X.mg)(hcl:closureFor scope X.env=pure cl)(hdef:defaultsOf params X.env=([],[]):=by rfl) :
   PE X (.Lambda params body scope pos) (z4f X.K X.mg j x ⟨params,body,scope,X.env.qual++"<lambda>",caps,[]⟩ cl):=by
 intro pins s σ H Q I h;obtain⟨ρ,S,hS,hj,k⟩:=h;obtain⟨P,hP,T,ps,hps,htr,hcs⟩:=hS.adr hj;obtain⟨f1,o1,fd1,c1,e1,e2,e3,e4,e5⟩:=T;obtain⟨f2,o2,fd2,g1,g2,g3,g4⟩:=hcd;rw[e1]at g1;cases g1;rw[e2]at g2;cases g2;rw[e3]at g3;cases g3;have hcode:X.env.code=.ref c1:=g4.symm.trans e4;have C:CodeHd s.heap c1 P:=codeHd_of_K I.kIn e5;have hPt:s.heap.get? P=some (tabObj ps):=I.hok P _ hps;have bs:=I.bs;have nP:∀b o,X.base.get? b=some o->b≠P:=fun b o e z=>by have:=(bs b o e).2;rw[z,hps]at this;cases this
 have hg:s.heap.Ns mainGlobals X.mg:=by obtain⟨o,es,ep,ho,r⟩:=I.mod.glob;exact⟨o,es,ep,I.bk _ _ ho,r⟩
 have hgP:mainGlobals≠P:=by obtain⟨o,es,ep,ho,r⟩:=I.mod.glob;exact nP _ _ ho
 obtain⟨bm,ob,b1,b2,b3,b4,b5,b6,b7⟩:=hb;have hBA:s.heap.BuiltinsAt X.mg P:=⟨bm,ob,b1,b2,b3,nP _ _ b4,I.bk _ _ b4,b5,b6,b7⟩
 refine kla_eval hdef ?_;cases hca:codeAmong pos ps.toList with
 | none=>
   refine kla_makeFunction hcl I.ok.glob hg hcode C hPt htr hca hgP hBA fun c' ctv h' tk hx hge hlt hrec htb=>?_;have hn:H c'=none:=I.hok.fresh hge;have I1:=zpj (q:=X.env.qual++"<lambda>") (tk:=tk) I hps hx htb hge hrec;have I2:=zpl (t:=⟨params,body,scope,X.env.qual++"<lambda>",caps,[]⟩) (cl:=cl) (c:=c') (pm:=(X.mg "__name__").getD .none) (ct:=ctv) (h':=h') (tk:=tk) I1 (fun _ _ e=>e) (z6l _);obtain⟨E1,S1⟩:=zka (a:=pos.line) (b:=pos.col) hS hj hP hps hn;have hf:=I1.hok.fresh (a:=h'.objs.size) (z6l _);have E2:=ji S1 (.ext (zms ⟨params,body,scope,X.env.qual++"<lambda>",caps,[]⟩ cl h'.objs.size c' ((X.mg "__name__").getD .none) ctv)) hf;exact⟨.ref h'.objs.size,_,I2,rfl,k _ c' _ _ _ (E1.trans E2) (S1.new _ hf) (S1.fresh hf) (hS.fresh hn) qf (by rw[qd (z7b hlt),qf])⟩
 | some cv=>
   obtain⟨c',rfl,nc,hc'⟩:=hcs pos cv hca;refine kla_makeFunctionHit hcl I.ok.glob hg hcode C hPt htr hca hBA fun ctv h' tk hk hsz=>?_;have hf:H h'.objs.size=none:=I.hok.fresh hsz;have I2:=zpl (t:=⟨params,body,scope,X.env.qual++"<lambda>",caps,[]⟩) (cl:=cl) (c:=c') (pm:=(X.mg "__name__").getD .none) (ct:=ctv) (h':=h') (tk:=tk) I hk hsz;have E2:=ji hS (.ext (zms ⟨params,body,scope,X.env.qual++"<lambda>",caps,[]⟩ cl h'.objs.size c' ((X.mg "__name__").getD .none) ctv)) hf;exact⟨.ref h'.objs.size,_,I2,rfl,k _ c' _ _ _ E2 (hS.new _ hf) (hS.fresh hf) nc qf (E2.keep _ _ hc' nc)⟩
end
end F
namespace F
open PySem L2 PySem.Spec PyProof.Rows PySem.W
section
variable {X:Cx}{o e lo hi:Expr}{pos pos' p2:Pos}{f h:E}{u w:Pt}
def z4j(f:E)(a b:Pt)(v:E):C:=fun ev S=>(v ev S).bind fun p=>(f ev p.2).bind fun q=>(a ev q.2).bind fun r=>(b ev r.2).bind fun t=>match p.1,q.1,r.1,t.1 with
 | .lst ys,.obj i,some lo,some hi=>(match t.2[i]? with
   |some (.lst ds)=>if 0<=lo/\lo<=hi/\hi<=ds.length/\ds.length+ys.length<=sizeLine then some (.nx ev,t.2.set i (.lst (ds.take lo.toNat++ys++ds.drop hi.toNat)))else none
   |_=>none)
 |_,_,_,_=>none
end
section
variable {X:Cx}{K:Frag}{mg:zMg}{a b:Expr}{f g:E}{pos:Pos}
def z2m(S:Sto):D->Option (List D)
 | .lst ds=>some ds
 | .obj a=>(match S[a]? with
   |some (.lst ds)=>some ds
   |_=>none)
 |_=>none
end
section
variable {X:Cx}{K:Frag}{mg:zMg}{e o l:Expr}{f g:E}{pos apos spos px pt:Pos}{body:C}
def z42(f:E):E:=fun ev S=>(f ev S).bind fun p=>match p.1 with
 | .obj a=>(match p.2[a]? with
   |some (.lst _)=>some (.non,p.2.set a (.lst []))
   |_=>none)
 |_=>none
def zc0(a i:Nat)(body:C):Nat->Nat->Ev->Sto->Option (Out×Sto)
 |0,_,_,_=>none
 | n+1,j,ev,S=>match S[a]? with
   | some (.lst ds)=>(match ds[j]? with
     |none=>some (.nx ev,S)
     | some d=>(body (ev.set i (some d)) S).bind fun p=>(match p.1 with
       | .nx e=>zc0 a i body n (j+1) e p.2
       | .ct e=>zc0 a i body n (j+1) e p.2
       | .bk e=>some (.nx e,p.2)
       | .rt x=>some (.rt x,p.2)))
   |_=>none
def zl0(i:Nat)(f:E)(body:C):C:=fun ev S=>(f ev S).bind fun p=>match p.1 with
 | .obj a=>(match p.2[a]? with
   |some (.lst ds)=>zc0 a i body (ds.length+1) 0 ev p.2
   |_=>none)
 |_=>none
theorem zwj(i:Nat){x:Str}{sb:List Stmt}(hN:X.N.Nodup)(hl:FE X l f)(hb:FSs X sb body)(hp:PassesOwn (model X.prog X.w) X.A X.env X.xe)(hc:X.calm=true:=by rfl)(hi:X.N[i]? = some x:=by rfl)(hx:Loc X.env.scope x:=by first | exact Or.inl rfl | exact Or.inr rfl)
   (hf:X.fn x=true\/X.env.scope.names.lookup x=some .local:=by first | exact .inl rfl | exact .inr rfl | assumption) (hs:∀v,foldedSetIterable l X.env v=pure v:=by intro _;rfl) :
   FS X (.For (.Name x px) l sb [] pos) (zl0 i f body) :=
 xw (zog hp hc (zfx hl) (zfy hN hi hx hf) hb hs) fun σ H D h=>by
   obtain⟨ρ,ev,S,o,S',hE,hS,hf,k⟩:=h;obtain⟨⟨d,S1⟩,q1,hf⟩:=zy hf;cases d with
   | obj a=>
     dsimp only at hf;split at hf
     · rename_i ds hd;refine⟨ρ,ev,S,_,S1,hE,hS,q1,fun v ρ1 H1 E1 hS1 r1=>?_⟩;unfold Rep at r1;obtain⟨p,rfl,hp⟩:=r1;obtain⟨us,hu,ru⟩:=hS1.ob a _ p hd hp;have k1:=k.ext E1;refine⟨p,rfl,⟨us,SqL.of hu⟩,fun j m σ' H'=>∃ρ' ev' S2,Ext ρ1 H1 ρ' H'/\StOk X.K X.mg ρ' H' S2/\EnvR X.K X.mg ρ' H' ev' σ'/\zc0 a i body m j ev' S2=some (o,S'),⟨ds.length+1,ρ1,ev,S1,Ext.refl _ _,hS1,hE.mono E1,hf⟩,?_⟩;rintro j m σ' H' ⟨ρ',ev',S2,e0,hS2,hE2,hl2⟩;cases m with
       |zero=>cases hl2
       | succ m=>
         unfold zc0 at hl2;split at hl2
         · rename_i ds2 hd2;obtain⟨us2,hu2,ru2⟩:=hS2.ob a _ p hd2 (e0.pre _ _ hp);split at hl2
           · rename_i hj;cases hl2;refine .inl ⟨⟨us2,SqL.of hu2,?_⟩,k1 σ' ρ' H' e0 hS2 hE2⟩;have:=ru2.length;have:=List.getElem?_eq_none_iff.mp hj;omega
           · rename_i d hj;obtain⟨y,ey,ry⟩:=ru2.get hj;obtain⟨⟨o1,S3⟩,q3,hl2⟩:=zy hl2;refine .inr ⟨⟨us2,y,SqL.of hu2,ey⟩,fun σ3 H3=>∃ρ3 ev3 S3,Ext ρ1 H1 ρ3 H3/\StOk X.K X.mg ρ3 H3 S3/\EnvR X.K X.mg ρ3 H3 ev3 σ3/\zc0 a i body m (j+1) ev3 S3=some (o,S'),fun σ3 H3 z=>⟨m,qak m,z⟩,fun x H3 ⟨eH,hx⟩=>?_⟩;subst eH;have ex:=hx us2 (SqL.of hu2);rw[ey]at ex;cases ex;refine⟨ρ',_,S2,o1,S3,hE2.set ry i,hS2,q3,?_⟩;cases o1 with
             |nx e=>exact fun σ3 ρ3 H3 E3 hS3 hE4=>⟨ρ3,e,S3,e0.trans E3,hS3,hE4,hl2⟩
             |ct e=>exact fun σ3 ρ3 H3 E3 hS3 hE4=>⟨ρ3,e,S3,e0.trans E3,hS3,hE4,hl2⟩
             |bk e=>cases hl2;exact fun σ3 ρ3 H3 E3 hS3 hE4=>k1 σ3 ρ3 H3 (e0.trans E3) hS3 hE4
             |rt y=>cases hl2;exact fun v3 ρ3 H3 E3 hS3 r3=>k1 v3 ρ3 H3 (e0.trans E3) hS3 r3
         · cases hl2
     · cases hf
   |_=>cases hf
end
end F
namespace F
open PySem L2 PySem.Spec PyProof.Rows PySem.W PySem.Calls
theorem zv3:typeLookup (.type "list_reverseiterator") "__len__"=pure none:=by rw[typeLookup_type,builtinLookup_eq_fast];kernel_rfl
theorem zr4:typeLookup (.type "list_reverseiterator") "__length_hint__"=pure (some (.builtin "list_reverseiterator.__length_hint__")):=by rw[typeLookup_type,builtinLookup_eq_fast];kernel_rfl
theorem zv2:isSubtype (.type "list_reverseiterator") (.type "list_reverseiterator")=pure true:=by rw[isSubtype_type];kernel_rfl
section
variable {prog:Program}{w:World}{A:Around}{s:Shared}{it l:Addr}{items:Array Value}
def zqx(items:Array Value):Nat->Value->Prop:=fun i v=>items[items.size-1-i]? = some v
theorem zrk{E:zVP}{Q:Bool->Shared->Prop}{i:Int}(hit:s.heap.IsRevIter it l i)(h:Q false s):wpAny (model prog w) A (Builtin.List.listLengthHint (.ref it)) Q E s:=by unfold Builtin.List.listLengthHint;refine z6m (wpAny_specialOf hit.typeIs zv3 ?_);refine z6m (wpAny_specialOf (name:=Str.ofString "__length_hint__") hit.typeIs zr4 ?_);refine z6m (wpAny_isInstance hit.typeIs zv2 ?_);exact z7g h
variable {R:Result->Shared->Prop}
theorem zl2(hh:A.handled=none)(hne:l≠it)(hl:s.heap.IsList l items)(hit:s.heap.IsRevIter it l ((items.size:Int)-1))(hn:items.size<=sizeLine){S:Addr}{c₀:Nat}
   (hS:s.heap.get? S=some { cls:=.type "list",data:=.seq #[] c₀ }) (h1:S≠it) (h2:S≠l)
   (hR:∀s' acc' c',Moved [S,it] (fun a b=>b=a) s s'->s'.heap.get? S=some { cls:=.type "list",data:=.seq acc' c' }->ItemsOf (zqx items) acc' items.size->R (.ok (.ret .none)) s') :
   wpAny (model prog w) A.in1 (Builtin.List.listExtendWith (.ref S) (.ref it) .none) (fun fin s'=>match fin with
     | .done f=>R (.ok f) s'
     | .again c'=>c'.quiet=true/\codeAny (model prog w) A c' R s') (fun e s'=>R (.error e) s') s:=by
 have W:=(Walks.listRev (prog:=prog) (w:=w) (A:=A.in1) hh it l hne items).toS;have st0:(0:Nat)<=items.size/\s.heap.IsRevIter it l ((items.size:Int)-1-((0:Nat):Int))/\s.heap.IsList l items:=⟨z7k _,by simpa using hit,hl⟩
 have nf:S∉[it,l]:=by simp[h1,h2]
 have ns:Builtin.List.listSameRef (.ref S) (.ref it)=false:=by unfold Builtin.List.listSameRef;simpa using h1
 unfold Builtin.List.listExtendWith;refine z6m (wpAny_typeOf hit.typeIs ?_);rw[ns,z7a (by decide)];refine z6m (W.self 0 _ _ _ st0 (z6m (wpAny_holding (zrk hit ?_))));rw[z7a (by decide +kernel)];refine z7g ⟨plainId_quiet F.plain_extend_loop _,?_⟩;exact codeAny_extend_loopS W hn S nf .none items.size 0 s #[] c₀ (Nat.sub_zero _) (z7k _) st0 hS (ItemsOf.nil _) fun s' acc' c' m hs ha=>hR s' acc' c' m hs ha
theorem zrj(hh:A.handled=none)(hne:l≠it)(hl:s.heap.IsList l items)(hit:s.heap.IsRevIter it l ((items.size:Int)-1))(hn:items.size<=sizeLine){S:Addr}
   (hS:s.heap.get? S=some { cls:=.type "list",data:=.seq #[] }) (h1:S≠it) (h2:S≠l)
   (hR:∀s' acc' c',Moved [S,it] (fun a b=>b=a) s s'->s'.heap.get? S=some { cls:=.type "list",data:=.seq acc' c' }->ItemsOf (zqx items) acc' items.size->R (.ok (.ret .none)) s') :
   wpAny (model prog w) A.in1 (Builtin.«list.__init__» ⟨[.ref S,.ref it],[]⟩) (fun fin s'=>match fin with
     | .done f=>R (.ok f) s'
     | .again c'=>c'.quiet=true/\codeAny (model prog w) A c' R s') (fun e s'=>R (.error e) s') s:=by
 show wpAny _ A.in1 (Builtin.List.listItems (.ref S) >>= fun old=>Builtin.List.listUpdate (.ref S) (fun _=>#[]) >>= fun _=>letGo old.toList.reverse >>= fun _=>Builtin.List.listExtendWith (.ref S) (.ref it) .none) _ _ s;unfold Builtin.List.listItems;refine z6m (z6m (wpAny_seqItems hS rfl (z7g ?_)));unfold Builtin.List.listUpdate;refine z6m (wpAny_updateSeq hS rfl (z6m (wpAny_letGo ?_)));have hS2:=Heap.get?_update_self (Obj.mapSeq (fun _=>(#[]:Array Value))) hS rfl;have keep:∀b o,b≠S->s.heap.get? b=some o->(s.heap.update S (Obj.mapSeq (fun _=>(#[]:Array Value)))).get? b=some o:=fun b o hb e=>(qay _ _ (z9m hb)).trans e;refine zl2 hh hne (hl.at fun o e=>keep l o (z9m h2) e) (hit.at fun o e=>keep it o (z9m h1) e) hn hS2 h1 h2 fun s' acc' c' m hs ha=>hR s' acc' c' ?_ hs ha;exact Moved.trans (fun _ _ _ p q=>q.trans p) ((Moved.refl (wr:=[S,it]) (G:=fun a b=>b=a) (s:=s) fun _=>rfl).then_heap (z6l _) fun b o hb e=>keep b o (fun z=>hb (by simp[z])) e) m
theorem zgr{E:zVP}{Q:zVP}(hh:A.handled=none)(hne:l≠it)(hl:s.heap.IsList l items)(hit:s.heap.IsRevIter it l ((items.size:Int)-1))(hn:items.size<=sizeLine)
   (hQ:∀s' acc' c',Moved [s.heap.objs.size,it] (fun a b=>b=a) { s with heap:=s.heap.push { cls:=.type "list",data:=.seq #[] } } s'->s'.heap.get? s.heap.objs.size=some { cls:=.type "list",data:=.seq acc' c' }->ItemsOf (zqx items) acc' items.size->Q (.ref s.heap.objs.size) s') :
   wpAny (model prog w) A (call (.type "list") [.ref it]) Q E s:=by
 obtain⟨o1,e1,_⟩:=id hl;obtain⟨o2,e2,_⟩:=id hit;refine callType_codes (Q₁:=fun obj s₁=>obj=.ref s.heap.objs.size/\s₁={ s with heap:=s.heap.push { cls:=.type "list",data:=.seq #[] } }) F.called_list (F.typeCall_list_1 _) F.entry_list_init (code_list_new _ ⟨rfl,rfl⟩) fun obj s₁ h₁=>?_;obtain⟨rfl,rfl⟩:=h₁;have hS:(s.heap.push { cls:=.type "list",data:=.seq #[] }).get? s.heap.objs.size=some { cls:=.type "list",data:=.seq #[] }:=z7j _ rfl;refine⟨⟨_,hS,rfl⟩,F.args_list_init_2 _ _,zrj (A:=A.in1) hh hne (hl.at fun o e=>z6u _ e) (hit.at fun o e=>z6u _ e) hn hS ?_ ?_ fun s' acc' c' m hs ha=>⟨rfl,hQ s' acc' c' m hs ha⟩⟩
 · exact fun z=>z8r _ (z▸z69 e2)
 · exact fun z=>z8r _ (z▸z69 e1)
end
section
variable {X:Cx}{e:Expr}{te:TE}{f:E}{p p2 pos pos2:Pos}
theorem zgz:bootBuiltins "reversed"=some (.type "reversed"):=by with_unfolding_all rfl
theorem zn5{its:List Value}{acc:Array Value}(h:ItemsOf (zqx its.toArray) acc its.toArray.size):acc=its.reverse.toArray:=by
 apply qb4.mp;obtain⟨h1,h2⟩:=h;rw[z6v]at h1;have l1:acc.toList.length=its.length:=by rw[Array.length_toList];exact h1
 apply List.ext_getElem
 · rw[l1,z78]
 · intro j q1 q2;have q3:j<its.length:=by rw[<-l1];exact q1
   have e1:acc[j]? = some acc.toList[j]:=by rw[<-z7u];exact z6s q1
   have e2:=h2 j _ e1;unfold zqx at e2;rw[z6v,<-z7u,z6s (by show its.length-1-j<its.length;omega)]at e2;have e3:=z7s e2;rw[<-e3,List.getElem_reverse]
def z5e(K:zFr)(te:TE):TE:=fun σ H Q=>te σ H fun x H1=>∃a xs,x=.ref a/\SqL K H1 a xs/\∀l,H1 l=none->Q (.ref l) (upd H1 l (.lst xs.reverse))
theorem zl5(he:PE X e te)(hc:X.calm=true)(hm:X.mg "list"=none)(hm2:X.mg "reversed"=none)(hg:Gl X "list")(hg2:Gl X "reversed")
   (h1:starEach [.Call (.Name "reversed" p2) [e] [] pos2] X.env=(false,eval (.Call (.Name "reversed" p2) [e] [] pos2) X.env)::starEach [] X.env) (h2:starEach [e] X.env=(false,eval e X.env)::starEach [] X.env) :
   PE X (.Call (.Name "list" p) [.Call (.Name "reversed" p2) [e] [] pos2] [] pos) (z5e X.K te):=by
 intro pins s σ H Q I h;refine z8t (zdw I hg hm zh9 ?_ (by decide) (by decide));refine z9e ?_ h1 rfl;rw[h1];show wpAny _ _ (spliced ((false,eval (.Call (.Name "reversed" p2) [e] [] pos2) X.env)::[])) _ _ s;refine PySem.Calls.spliced_cons ?_;refine z8t (zdw I hg2 hm2 zgz ?_ (by decide) (by decide));have h':=zf0 he zon h2 pos2 pins s σ H (fun vs H1=>match vs with
   | [x]=>∃a xs,x=.ref a/\SqL X.K H1 a xs/\∀l,H1 l=none->Q (.ref l) (upd H1 l (.lst xs.reverse))
   |_=>False) I h
 refine z9e (thn h' fun us s1 ⟨vs,H1,I1,r1,q1⟩=>?_) h2 rfl
 match vs,r1,q1 with
 | [x],r1,q1=>
   obtain⟨a,xs,rfl,hq,q⟩:=q1;obtain⟨u,rfl,ru⟩:=r1.one;cases ru;obtain⟨its,rv,pl,hz⟩:=I1.list hq;have hlen:=rv.length;have hl:s1.heap.IsList a its.toArray:=pl.isList;obtain⟨oa,ea,_⟩:=id hl;refine call_reversed_list hl ?_;refine PySem.Calls.spliced_nil ?_;have hne:a≠s1.heap.objs.size:=fun z=>z8r _ (z▸z69 ea);refine zgr (items:=its.toArray) (I.ok.hd hc) hne (hl.at fun o e=>z6u _ e) ⟨_,z7j _ rfl,rfl,rfl⟩ (by rw[z6v];omega) fun s' acc' c' m hs ha=>?_;have es:=zn5 ha;subst es;obtain⟨h',g',d',t',o'⟩:=s';have e1:=m.gens;have e2:=m.drawn;have e3:=m.os;dsimp only at e1 e2 e3 hs;subst e1 e2 e3;have sz:(s1.heap.push (revObj a ((its.toArray.size:Int)-1))).objs.size=s1.heap.objs.size+1:=qbr ..;have kp:∀b o,s1.heap.get? b=some o->h'.get? b=some o:=fun b o e=>by have lt:=z69 e;refine m.heap b o ?_ (z6u _ (z6u _ e));simp only[sz,z6n,List.not_mem_nil,or_false,not_or];exact⟨z7b (qag lt),z7b lt⟩
   rw[sz]at hs;refine⟨.ref (s1.heap.objs.size+1),_,I1.laid (t':=t') (h':=h') kp (qb1 _) (show ObjOk X.prog X.w _ h' _ (.lst xs.reverse) from⟨by rw[z78];exact hz,its.reverse,c',rv.reverse,hs⟩),?_,q _ (I1.hok.fresh (qb1 _))⟩;show Value.ref _=Value.ref _;rw[sz]
def zch(f:E):E:=fun ev S=>(f ev S).bind fun p=>match p.1 with
 | .lst ds=>some (.lst ds.reverse,p.2)
 |_=>none
theorem zfd(hm:X.mg "list"=none)(hm2:X.mg "reversed"=none)(he:FE X e f)(hc:X.calm=true:=by rfl)(hg:Gl X "list":=by rfl)(hg2:Gl X "reversed":=by rfl)
   (h1:starEach [.Call (.Name "reversed" p2) [e] [] pos2] X.env=(false,eval (.Call (.Name "reversed" p2) [e] [] pos2) X.env)::starEach [] X.env:=by exact qb rfl) (h2:starEach [e] X.env=(false,eval e X.env)::starEach [] X.env:=by exact qb rfl) :
   FE X (.Call (.Name "list" p) [.Call (.Name "reversed" p2) [e] [] pos2] [] pos) (zch f) :=
 qy (zl5 he hc hm hm2 hg hg2 h1 h2) fun σ H Q h=>by
   obtain⟨ρ,ev,S,d,S',hE,hS,hf,k⟩:=h;obtain⟨⟨x,S1⟩,q1,hf⟩:=zy hf;cases x with
   | lst ds=>
     cases hf;refine⟨ρ,ev,S,_,S1,hE,hS,q1,fun v ρ1 H1 E1 hS1 r1=>?_⟩;obtain⟨b,us,rfl,t,r⟩:=r1.refL;exact⟨b,us,rfl,t.sq,fun l hl=>k _ ρ1 _ (E1.trans (ji hS1 _ hl)) (hS1.new _ hl) (Rep.lst (s:=hS1) hl r.reverse)⟩
   |_=>cases hf
end
end F
namespace F
open PySem L2 PySem.Spec PySem.Calls PyProof.Rows PySem.W
open Classical in
def zea(g:G)(a:As)(q:Nat)(t:LT)(cl:zLA)(is:List Nat):E:=fun ev S=>(a ev S).bind fun p=>match ev[q]? with
 |some (some (.lam t'))=>if t'={ t with cl:=cl }then (zh2 ev is).bind fun vs=>(g (p.1++[.clo t vs]) p.2).bind fun r=>if(noC r.1&&noCS r.2)=true then some r else none else none
 |_=>none
def z5m(K:Frag)(mg:zMg)(q:Nat)(t:LT)(cl:zLA)(f:As):TA:=fun σ H Q=>∃ρ ev S ds S',EnvR K mg ρ H ev σ/\StOk K mg ρ H S/\f ev S=some (ds,S')/\ev[q]? = some (some (.lam { t with cl:=cl })) /\
 ∀vs a c pm ct ρ' H',Ext ρ H ρ' H'->StOk K mg ρ' H' S'->RepL K mg ρ' H' ds vs->a∉ρ'->c∉ρ'->H' a=some (.ext (zms t cl a c pm ct))->H' c=some (.ext (zad c t.qual))->Q (vs++[.ref a]) H'
def FAD(X:Cx)(es:List Expr)(q:Nat)(t:LT)(cl:zLA)(f:As):Prop:=PA X es (z5m X.K X.mg q t cl f)
section
variable {X:Cx}{t:LT}{cl:zLA}{q:Nat}
theorem zgl{e:Expr}(h:FE X e (eV q))(hs:starEach [e] X.env=[(false,eval e X.env)]:=by exact qb rfl):FAD X [e] q t cl aN :=
 zfz (zf0 h zon hs) fun σ H Q h=>by obtain⟨ρ,ev,S,ds,S',hE,hS,hf,hj,k⟩:=h;cases hf;refine⟨ρ,ev,S,.lam { t with cl:=cl },S,hE,hS,by simp[eV,hj],fun v ρ1 H1 E1 hS1 r1=>?_⟩;unfold Rep at r1;obtain⟨a,rfl,n1,c,pm,ct,n2,h1,h2⟩:=r1;exact k [] a c pm ct ρ1 H1 E1 hS1 RepL.nil n1 n2 h1 h2
theorem yb{e:Expr}{es:List Expr}{f:E}{g:As}(ha:FE X e f)(hr:FAD X es q t cl g)(hs:starEach (e::es) X.env=(false,eval e X.env)::starEach es X.env:=by exact qb rfl):FAD X (e::es) q t cl (aC f g) :=
 zfz (zf0 ha hr hs) fun σ H Q h=>by obtain⟨ρ,ev,S,d,S',hE,hS,hf,hj,k⟩:=h;obtain⟨⟨x,S1⟩,q1,hf⟩:=zy hf;obtain⟨⟨y,S2⟩,q2,hf⟩:=zy hf;cases hf;refine⟨ρ,ev,S,x,S1,hE,hS,q1,fun v ρ1 H1 E1 hS1 r1=>⟨ρ1,ev,S1,y,_,hE.mono E1,hS1,q2,hj,fun vs a c pm ct ρ2 H2 E2 hS2 r2 n1 n2 h1 h2=>?_⟩⟩;exact k (v::vs) a c pm ct ρ2 H2 (E1.trans E2) hS2 (RepL.cons (r1.mono E2) r2) n1 n2 h1 h2
end
section
variable {X:Cx}{k q:Nat}{x:Str}{g:G}{a:As}{t:LT}{cl:zLA}{is:List Nat}{e:Expr}{es:List Expr}{p pos:Pos}
theorem zgk(cal:Cal X.prog X.w X.K X.mg X.base k x g)(C:CapsOk X t cl is)(hr:Room k X.A)(ha:FAD X (e::es) q t cl a)(hg:Gl X x:=by rfl)(hdb:(x==("__debug__":Str))=false:=by decide)
   (he:starEach (e::es) X.env=(false,eval e X.env)::starEach es X.env:=by exact qb rfl) (hpl:(backTo pos (starEach es X.env)).any (·.1)=false:=by exact jh rfl) :
   FE X (.Call (.Name x p) (e::es) [] pos) (zea g a q t cl is):=by
 obtain⟨f,fd,ps,ds,dvs,dds,gg,F,hm,hk,hb,hd,hdd,hgg⟩:=cal.ex;intro pins s σ H Q I h;obtain⟨ρ,ev,S,d,S',hE,hS,hf,kk⟩:=h;unfold zea at hf;obtain⟨⟨as,S1⟩,q1,hf0⟩:=zy hf;clear hf;dsimp only at hf0;split at hf0
 · rename_i t' hj;split at hf0
   · rename_i hyu;subst hyu;obtain⟨kv,q2,hf⟩:=zy hf0;obtain⟨⟨d1,S2⟩,q3,hf⟩:=zy hf;dsimp only at hf;split at hf
     · rename_i hno;cases hf;rw[z8e]at hno;obtain⟨n1,n2⟩:=hno;refine z8t (zf7 I hg hm ?_ hdb);refine z96 (h₀:=X.base) I.ok.mod.kin hk (thn (ha pos pins s σ H (fun vs H1=>∃ws a c pm ct ρ1,vs=ws++[.ref a]/\Ext ρ H ρ1 H1/\StOk X.K X.mg ρ1 H1 S1/\RepL X.K X.mg ρ1 H1 as ws/\a∉ρ1/\c∉ρ1/\H1 a=some (.ext (zms t cl a c pm ct))/\H1 c=some (.ext (zad c t.qual))) I ⟨ρ,ev,S,as,S1,hE,hS,q1,hj,fun vs a c pm ct ρ1 H1 E1 hS1 r1 m1 m2 m3 m4=>⟨vs,a,c,pm,ct,ρ1,rfl,E1,hS1,r1,m1,m2,m3,m4⟩⟩) fun us s1 ⟨vs,H1,I1,r,ws,a',c,pm,ct,ρ1,ev1,E1,hS1,r1,m1,m2,m3,m4⟩=>⟨I1.kIn,?_⟩) he hpl;subst ev1;have E2:=C.ext (ρ:=ρ1) I1;have hS2:=C.st I1 hS1;obtain⟨cs,hcs,rk⟩:=zeg C I1 (hE.mono E1) hS1 cl is kv (fun _ h=>h) (by
         rw[C.at_,<-C.names,qar];rfl) q2
       rw[C.names]at hcs;have rc:Rep X.K X.mg ρ1 (trk H1 s1.heap cl) (.clo t kv) (.ref a'):=by unfold Rep;exact⟨a',cs,rfl,⟨m1,c,pm,ct,cl,m2,E2.keep _ _ m3 m1,E2.keep _ _ m4 m2,C.nodup I1,hcs⟩,rk.mono E2⟩
       have cin:=C.cin I1;have hsp:spG X.K X.mg gg ((ws++[.ref a'])++dvs) (trk H1 s1.heap cl) (fun v H'=>CellsIn H' cl->Q v (zb2 H' cl)) E0 :=
         ⟨ρ1,(as++[.clo t kv])++dds,S1,d,S',((r1.mono E2).append (RepL.cons rc RepL.nil)).append (hdd _ _),hS2,hgg _ _ _ q3,fun v ρ' H' E' hS' r' ci=>by
           refine kk v ρ' (zb2 H' cl) (E1.trans ⟨E'.pre,fun b o hb nb=>?_,fun b hb nb=>?_⟩) (hS'.off ci n2) (r'.off ci n1)
           · have z:b∉cl.map (·.2):=fun z=>by rw[C.hn I1 b z]at hb;cases hb
             rw[jv z];exact E'.keep b o (E2.keep b o hb nb) nb
           · have:=E'.new b hb nb;by_cases z:b∈cl.map (·.2)
             · exact C.hn I1 b z
             · unfold trk at this;rw[q0 z]at this;exact this⟩
       have r2:Vals ((ws++[.ref a'])++dvs) (us++ds):=r.append hd;have hl:(us++ds).length=ps.length:=by rw[<-r2.length];exact F.len _ _ _ _ hsp
       refine wpAny_call (qa5 (F.run X.A X.stack s1 (trk H1 s1.heap cl) ⟨us,[]⟩ (us++ds) _ _ E0 hr (C.env0 I1) (hb s1 us I1.kIn hl) r2 hsp) fun r s' hq=>?_);cases r with
       |error e=>exact hq.elim
       | ok fl=>
         cases fl with
         | ret u=>
           obtain⟨v,H',os,bare,un,hok,rv,q⟩:=hq;have ci:CellsIn H' cl:=fun b hb=>let⟨o,z⟩:=cin b hb;⟨o,un.frzs b o _ z⟩;obtain⟨hh,gn,dr,tt,os'⟩:=s';obtain rfl:os'=s1.os:=os;refine⟨v,zb2 H' cl,I1.call (h':=hh) (g':=gn) (d':=dr) (t':=tt) (ch:=[]) (ztd (C.hn I1) un (fun b hb=>let⟨o,_,z,_⟩:=C.isc I1 b hb;⟨o,z⟩) (fun b o w z=>(hok b _ z).1)) (zjc hok ci) bare (fun b z=>absurd z (by simp)),rv,q ci⟩
         |next=>exact False.elim hq
         |brk=>exact False.elim hq
         |cont=>exact False.elim hq
     · cases hf
   · cases hf0
 · cases hf0
end
def spA(K:Frag)(mg:zMg)(gs:zLA->G):Sp:=fun vs H Q E=>∀cl,spG K mg (gs cl) vs H Q E
open Classical in
def gA(gs:zLA->G):G:=fun ds S=>if h:∃r,∀cl,gs cl ds S=some r then some h.choose else none
theorem zwg{gs:zLA->G}{ds:List D}{S:Sto}{r:D×Sto}(h:∀cl,gs cl ds S=some r):gA gs ds S=some r:=by
 have e:∃r,∀cl,gs cl ds S=some r:=⟨r,h⟩
 unfold gA;rw[dif_pos e];exact(e.choose_spec []).symm.trans (h [])
theorem zzf{gs:zLA->G}{ds:List D}{S:Sto}{r:D×Sto}(h:gA gs ds S=some r)(cl:zLA):gs cl ds S=some r:=by
 unfold gA at h;split at h
 · rename_i e;cases h;exact e.choose_spec cl
 · cases h
theorem zx1{K:Frag}{mg:zMg}{gs:zLA->G}{vs:List V}{H:Hp}{Q:VK}{E:XK}(h:spG K mg (gA gs) vs H Q E):spA K mg gs vs H Q E:=fun cl=>by obtain⟨ρ,ds,S,d,S',r,hS,hf,k⟩:=h;exact⟨ρ,ds,S,d,S',r,hS,zzf hf cl,k⟩
section
variable {P:Program}{w:World}{K:Frag}{mg:zMg}{base:Heap}{x qual:Str}{st:Stmt}{N ps:List Str}{k:Nat}{b:zLA->C}{dV:Value}{f:Addr}{fd:FuncData}
theorem FunD.okA(F:FunD K x qual st f fd dV){y:Str}(hm:mg y=some (.ref f))(S:FnScope N ps (zk st))
   (hbody:∀(cdv:Value),zck K mg y cdv->∀(A:Around) (outer:List Env) (s:Shared) (H:Hp) (E:XK),Room k (A.deeper (envOfC qual (zk st) s.heap.objs.size f cdv)) ->
     ∃cl,FSs (zg4 CX0 P w K mg base N qual (zk st) f cdv A outer s H E).nox (j6 st) (b cl)):FnOk P w K mg base CX0 (k+1) f fd ps (spG K mg (gA fun cl=>z9 N.length ps.length (b cl))):=by
 have co:=F.code hm;obtain⟨oc,od,kV,doc,pm,an,cdv,ct,osl,rfl,lk,hcd⟩:=F.ex;refine zwm lk hcd S (fun vs H Q E h=>?_) fun A outer s H vs Q E hr hsp=>?_
 · obtain⟨ρ,ds,S,d,S',r,hS,hf,k⟩:=h;rw[<-r.length];exact zel (zzf hf [])
 · obtain⟨cl,hb⟩:=hbody cdv co A outer s H E hr;exact⟨_,hb.nox,zjx (zx1 hsp cl)⟩
abbrev z38(P:Program)(w:World)(K:Frag)(mg:zMg)(base:Heap)(N:List Str)(x qual:Str)(st:Stmt)(k:Nat)(b:zLA->C):Prop :=
 ∀(f:Addr) (cdv:Value),zck K mg x cdv->∀(A:Around) (outer:List Env) (s:Shared) (H:Hp) (E:XK),Room k (A.deeper (envOfC qual (zk st) s.heap.objs.size f cdv)) ->
     ∃cl,FSs (zg4 CX0 P w K mg base N qual (zk st) f cdv A outer s H E).nox (j6 st) (b cl)
theorem HasDef.calA(h:HasDef K mg x st 0)(S:FnScope N ps (zk st))(hb:zxk x x st ps)(hbody:z38 P w K mg base N x x st k b):Cal P w K mg base (k+1) x (gA fun cl=>z9 N.length ps.length (b cl)):=by obtain⟨f,fd,dV,F,hm,rfl⟩:=h.ex;exact⟨f,fd,ps,[],[],[],_,F.okA hm S fun cdv co A outer s H E hr=>hbody f cdv co A outer s H E hr,hm,F.kp,F.binds0 hb,.nil,fun _ _=>RepL.nil,fun args S r e=>by rw[z7h];exact e⟩
end
section
variable {X:Cx}{st:Stmt}{c1 c2:C}{p:Ev->Sto->Bool}
def zjb(f:E):Ev->Sto->Bool:=fun ev S=>match f ev S with
 |some (.lst _,_)=>true
 |_=>false
def zyf(p:Ev->Sto->Bool)(c1 c2:C):C:=fun ev S=>if p ev S=true then c1 ev S else c2 ev S
theorem z0l(p:Ev->Sto->Bool)(h1:FS X st c1)(h2:FS X st c2):FS X st (zyf p c1 c2):=by
 intro pins s σ H Q I h;obtain⟨ρ,ev,S,o,S',hE,hS,hf,k⟩:=h;unfold zyf at hf;split at hf
 · exact h1 pins s σ H Q I ⟨ρ,ev,S,o,S',hE,hS,hf,k⟩
 · exact h2 pins s σ H Q I ⟨ρ,ev,S,o,S',hE,hS,hf,k⟩
end
end F
namespace F
open PySem L2 PySem.Spec PyProof.Rows
def zmf:List V->List V->Option Bool
 | [],[]=>some false
 | [],_::_=>some true
 |_::_,[]=>some false
 | .int x::xs,.int y::ys=>if x=y then zmf xs ys else some (decide (x<y))
 | .str x::xs,.str y::ys=>if x=y then zmf xs ys else some (decide (x.cps.toList<y.cps.toList))
 |_::_,_::_=>none
inductive FlatAre:List Value->List V->Prop
 |nil:FlatAre [] []
 |int (a:Int) (t:Tok) {vs:List Value}{ns:List V}:FlatAre vs ns->FlatAre (.int a t::vs) (.int a::ns)
 |str (a:Str) (t:Tok) {vs:List Value}{ns:List V}:FlatAre vs ns->FlatAre (.str a t::vs) (.str a::ns)
theorem FlatAre.length{vs:List Value}{ns:List V}(h:FlatAre vs ns):vs.length=ns.length:=by
 induction h with
 |nil=>rfl
 |int _ _ _ ih=>rw[List.length_cons,List.length_cons,ih]
 |str _ _ _ ih=>rw[List.length_cons,List.length_cons,ih]
theorem zso(A:Around)(s:Shared)(a:Str)(t:Tok)(c:Str)(u:Tok):∃e,SeqAt.EqAt A s (.str a t) (.str c u) e/\(e=true↔a=c) :=
 ⟨(a==c),SeqAt.EqAt.str_str a t c u,by simp⟩
theorem zrn(A:Around)(s:Shared)(a:Str)(t:Tok)(c:Str)(u:Tok)(prog:Program)(w:World)(E:zVP)(Q:zVP)(h:Q (.bool (decide (a.cps.toList<c.cps.toList))) s) :
   wpAny (model prog w) A (richCompare .Lt (.str a t) (.str c u)) Q E s :=
 (PyProof.Rows.lt_str h:wpAny (model prog w) A (compareOp .Lt (.str a t) (.str c u)) Q E s)
section
open PySem.SeqAt
open PySem.AutoSeq1 (wpAny_loadPart')
open PySem.MeetsSeq PySem.MeetsSeq2 PySem.MeetsSeq3
theorem zfs(l b:Addr)(items items2:Array Value)(n n2:Nat)(dd dd2:Option Addr)(sl sl2:Array (Option Value))(ns ms:List V)(res:Bool)(hres:zmf ns ms=some res)(hi:FlatAre items.toList ns)(hj:FlatAre items2.toList ms) :
   Meets (Builtin.«tuple.__lt__» ⟨[.ref l,.ref b],[]⟩)
     (fun _ R s=>s.heap.get? l=some { cls:=.type "tuple",dict:=dd,data:=.seq items n,slots:=sl }/\s.heap.get? b=some { cls:=.type "tuple",dict:=dd2,data:=.seq items2 n2,slots:=sl2 } /\
       R (.ok (.ret (.bool res))) s) :=
 .of_wp fun prog w A R s h=>by
   obtain⟨hp,g,d,tk,os⟩:=s;obtain⟨hl,hb,h⟩:=h;have f2:=AutoSeq1.sub_tuple_tuple;have z1:items.size=ns.length:=by rw[<-hi.length];simp
   have z2:items2.size=ms.length:=by rw[<-hj.length];simp
   wp_walk using wpAny_loadPart' hl,wpAny_loadPart' hb,wpAny_forIn_list _ (fun rest b s'=>b.1=none/\s'=⟨hp,g,d,tk,os⟩/\∃(vs ws:List Value) (ns' ms':List V) (r:Bool),rest=vs.zip ws /\
     FlatAre vs ns'/\FlatAre ws ms'/\ns'.length+items2.size=ms'.length+items.size/\zmf ns' ms'=some r/\R (.ok (.ret (.bool r))) ⟨hp,g,d,tk,os⟩) _
   case turn=>
     rintro⟨y,x⟩ rest b s' ⟨hb',rfl,vs,ws,ns',ms',r,hz,hvi,hwi,hlen,hl,hR⟩;cases hvi with
     |nil=>rw[List.zip_nil_left]at hz;cases hz
     | int a t hvi'=>
       cases hwi with
       |nil=>rw[List.zip_nil_right]at hz;cases hz
       |str c u hwi'=>cases hl
       | int c u hwi'=>
         rw[List.zip_cons_cons]at hz;injection hz with hyx hrest;injection hyx with hy hx;subst hy hx;simp only[zmf]at hl;simp only[List.length_cons]at hlen;obtain⟨e,he,hiff⟩:=HT.eqAt_int A.in1 ⟨hp,g,d,tk,os⟩ a t c u;refine z6m (he prog w _ _ ?_);cases e with
         | true=>
           rw[z64 (hiff.mp rfl)]at hl
           wp_walk
           exact⟨rfl,rfl,_,_,_,_,_,hrest,hvi',hwi',by omega,hl,hR⟩
         | false=>
           rw[z7a (fun q=>absurd (hiff.mpr q) z73)]at hl;cases hl;have hri:=HT.rcLt_int A.in1 ⟨hp,g,d,tk,os⟩ a t c u prog w
           wp_walk using hri
           exact⟨_,rfl,by simpa using hR⟩
     | str a t hvi'=>
       cases hwi with
       |nil=>rw[List.zip_nil_right]at hz;cases hz
       |int c u hwi'=>cases hl
       | str c u hwi'=>
         rw[List.zip_cons_cons]at hz;injection hz with hyx hrest;injection hyx with hy hx;subst hy hx;simp only[zmf]at hl;simp only[List.length_cons]at hlen;obtain⟨e,he,hiff⟩:=zso A.in1 ⟨hp,g,d,tk,os⟩ a t c u;refine z6m (he prog w _ _ ?_);cases e with
         | true=>
           rw[z64 (hiff.mp rfl)]at hl
           wp_walk
           exact⟨rfl,rfl,_,_,_,_,_,hrest,hvi',hwi',by omega,hl,hR⟩
         | false=>
           rw[z7a (fun q=>absurd (hiff.mpr q) z73)]at hl;cases hl;have hri:=zrn A.in1 ⟨hp,g,d,tk,os⟩ a t c u prog w
           wp_walk using hri
           exact⟨_,rfl,by simpa using hR⟩
   case fin=>
     rintro⟨b1,b2⟩ s' ⟨hb',rfl,vs,ws,ns',ms',r,hz,hvi,hwi,hlen,hl,hR⟩;simp only at hb';subst hb';have hv:r=decide (items.size<items2.size):=by
       cases hvi with
       | nil=>
         cases hwi with
         |nil=>cases hl;simp only[List.length_nil]at hlen;exact(z60 (by omega)).symm
         |int c u hw=>cases hl;simp only[List.length_nil,List.length_cons]at hlen;exact(z68 (by omega)).symm
         |str c u hw=>cases hl;simp only[List.length_nil,List.length_cons]at hlen;exact(z68 (by omega)).symm
       | int a t hv=>
         cases hwi with
         |nil=>cases hl;simp only[List.length_nil,List.length_cons]at hlen;exact(z60 (by omega)).symm
         |int c u hw=>rw[List.zip_cons_cons]at hz;cases hz
         |str c u hw=>rw[List.zip_cons_cons]at hz;cases hz
       | str a t hv=>
         cases hwi with
         |nil=>cases hl;simp only[List.length_nil,List.length_cons]at hlen;exact(z60 (by omega)).symm
         |int c u hw=>rw[List.zip_cons_cons]at hz;cases hz
         |str c u hw=>rw[List.zip_cons_cons]at hz;cases hz
     rw[hv]at hR
     wp_walk
     exact⟨_,rfl,by simpa [Builtin.Tuple.tupleCompareSizes] using hR⟩
   case h=>
     exact⟨rfl,rfl,items.toList,items2.toList,ns,ms,_,rfl,hi,hj,by omega,hres,h⟩
end
section
variable {prog:Program}{w:World}{A:Around}{E:zVP}{s:Shared}
theorem zme{l b:Addr}{items items2:Array Value}{ns ms:List V}{res:Bool}{Q:zVP}(hl:IsTup s.heap l items)(hb:IsTup s.heap b items2)(hres:zmf ns ms=some res)(hi:FlatAre items.toList ns)(hj:FlatAre items2.toList ms)
   (hu:A.units<cLine) (h:Q (.bool res) s):wpAny (model prog w) A (compareOp .Lt (.ref l) (.ref b)) Q E s:=by
 obtain⟨⟨cls,dd,data,sl⟩,ho,hc,n,hd⟩:=id hl;obtain⟨⟨cls2,dd2,data2,sl2⟩,ho2,hc2,n2,hd2⟩:=id hb;simp only at hc hd hc2 hd2;subst hc hd hc2 hd2;exact richCompare_meets_room (op:=.Lt) ⟨_,ho,rfl⟩ ⟨_,ho2,rfl⟩ PySem.F.slot_tuple_lt PySem.F.entry_tuple_lt (PySem.F.args_tuple_lt_2 _ _) (zfs l b items items2 n n2 dd dd2 sl sl2 ns ms res hres hi hj)
   ⟨ho,ho2,show Value.bool res≠Value.notImplemented/\Q (.bool res) s from⟨(fun x=>nomatch x),h⟩⟩ hu
end
def z0n:D->Option V
 | .int i=>some (.int i)
 | .str z=>some (.str z)
 |_=>none
def zgj:List D->Option (List V)
 | []=>some []
 |d::ds=>(z0n d).bind fun x=>(zgj ds).map (x::·)
def zl7:D->D->Option D
 | .int i,.int j=>some (.bl (decide (i<j)))
 | .str x,.str y=>some (.bl (decide (x.cps.toList<y.cps.toList)))
 | .tup a,.tup b=>(zgj a).bind fun x=>(zgj b).bind fun y=>(zmf x y).map .bl
 |_,_=>none
section
variable {X:Cx}{K:zFr}{mg:zMg}
def z4m(K:zFr):R2:=fun x y H Q=>(∃i j,x=.int i/\y=.int j/\Q (.bl (decide (i<j))) H)\/(∃i j,x=.str i/\y=.str j/\Q (.bl (decide (i.cps.toList<j.cps.toList))) H) \/
 ∃a b xs ys us vs r,x=.ref a/\y=.ref b/\SqT K H a xs/\SqT K H b ys/\xs=us/\ys=vs/\(∀z∈us,(∃i,z=.int i)\/∃i,z=.str i)/\(∀z∈vs,(∃i,z=.int i)\/∃i,z=.str i)/\zmf us vs=some r/\Q (.bl r) H
theorem zp0{xs:List V}{its:List Value}(h:∀z∈xs,(∃i,z=.int i)\/∃i,z=.str i)(r:Vals xs its):FlatAre its xs:=by
 induction r with
 |nil=>exact .nil
 | cons p q ih=>
   have:=ih fun z hz=>h z (z6r _ hz);rcases h _ (z6w ..) with⟨i,rfl⟩ | ⟨i,rfl⟩
   · obtain⟨t,rfl⟩:=p;exact .int _ _ this
   · obtain⟨t,rfl⟩:=p;exact .str _ _ this
theorem zzb(hu:X.A.units<cLine):OpR X (compareOp .Lt) (z4m X.K):=by
 intro pins s σ H x y v u Q I rx ry h;rcases h with⟨i,j,rfl,rfl,q⟩ | ⟨i,j,rfl,rfl,q⟩ | ⟨a,b,xs,ys,us,vs,r,rfl,rfl,ha,hb,rfl,rfl,h1,h2,hl,q⟩
 · exact zr1 pins s σ H _ _ v u Q I rx ry ⟨i,j,rfl,rfl,q⟩
 · exact zor pins s σ H _ _ v u Q I rx ry ⟨i,j,rfl,rfl,q⟩
 · cases rx;cases ry;obtain⟨its,r1,p1,_⟩:=I.tuple ha;obtain⟨its2,r2,p2,_⟩:=I.tuple hb;exact zme p1 p2 hl (zp0 h1 (by simpa using r1)) (zp0 h2 (by simpa using r2)) hu ⟨.bl r,H,I,rfl,q⟩
theorem zby{ρ H}:∀{ds:List D}{xs vs:List V},zgj ds=some xs->RepL K mg ρ H ds vs->vs=xs/\∀z∈xs,(∃i,z=.int i)\/∃i,z=.str i
 | [],_,_,e,r=>by cases e;unfold RepL at r;exact⟨r,fun z hz=>by cases hz⟩
 | d::ds,_,_,e,r=>by
   unfold RepL at r;obtain⟨v,r',rfl,r1,r2⟩:=r;obtain⟨x,q1,e⟩:=zy e;obtain⟨xs,q2,e⟩:=zav e;subst e;obtain⟨rfl,f2⟩:=zby q2 r2;cases d with
   | int i=>
     cases q1;cases(show v=.int i from r1);exact⟨rfl,fun z hz=>(z6n.mp hz).elim (fun e=>.inl ⟨i,e⟩) (f2 z)⟩
   | str i=>
     cases q1;cases(show v=.str i from r1);exact⟨rfl,fun z hz=>(z6n.mp hz).elim (fun e=>.inr ⟨i,e⟩) (f2 z)⟩
   |_=>cases q1
theorem zu6:zfl K mg (z4m K) (fun _=>zl7):=by
 intro ρ H S x y dx dy d Q hS rx ry e k;dsimp only at e;unfold zl7 at e;split at e
 · cases e;cases(show x=.int _ from rx);cases(show y=.int _ from ry);exact .inl ⟨_,_,rfl,rfl,k _ H (Ext.refl _ _) hS rfl⟩
 · cases e;cases(show x=.str _ from rx);cases(show y=.str _ from ry);exact .inr (.inl ⟨_,_,rfl,rfl,k _ H (Ext.refl _ _) hS rfl⟩)
 · obtain⟨xs,q1,e⟩:=zy e;obtain⟨ys,q2,e⟩:=zy e;obtain⟨r,q3,e⟩:=zav e;subst e;obtain⟨p,vs,rfl,t,r1⟩:=rx.refT;obtain⟨p2,vs2,rfl,t2,r2⟩:=ry.refT;obtain⟨rfl,f1⟩:=zby q1 r1;obtain⟨rfl,f2⟩:=zby q2 r2;exact .inr (.inr ⟨p,p2,_,_,_,_,r,rfl,rfl,t.sq,t2.sq,rfl,rfl,f1,f2,q3,k _ H (Ext.refl _ _) hS rfl⟩)
 · cases e
theorem z0r{a b:Expr}{f g:E}{pos:Pos}{k:Nat}(hr:Room k X.A)(ha:FE X a f)(hb:FE X b g)(hm:behindInMarks .Lt b=false:=by exact yo _):FE X (.Compare a [.Lt] [b] pos) (e2 zl7 f g):=zhw (zzb (by have:=hr.un;omega)) zu6 ha hb hm
end
section
open Classical
def yu(a:Nat)(us:List D)(c:B)(g:E)(fr:Ev):List D->Sto->Option (List D×Sto)
 | [],S=>if S[a]? = some (.lst us)then some ([],S)else none
 |d::ds,S=>if S[a]? = some (.lst us)then (c (some d::fr) S).bind fun p=>if p.1=true then (g (some d::fr) p.2).bind fun q=>(yu a us c g fr ds q.2).bind fun r=>some (q.1::r.1,r.2)else yu a us c g fr ds p.2 else none
end
theorem zqj{a:Nat}{us:List D}{c:B}{g:E}{fr:Ev}{ds:List D}{S:Sto}{r:List D×Sto}(h:yu a us c g fr ds S=some r):S[a]? = some (.lst us):=by
 cases ds with
 | nil=>
   unfold yu at h;split at h
   · assumption
   · cases h
 | cons d ds=>
   unfold yu at h;split at h
   · assumption
   · cases h
theorem zfk{a:Nat}{us:List D}{c:B}{g:E}{fr:Ev}{S:Sto}(h:S[a]? = some (.lst us)):yu a us c g fr [] S=some ([],S):=by unfold yu;rw[z64 h]
theorem zee{a:Nat}{us:List D}{c:B}{g:E}{fr:Ev}{d:D}{ds:List D}{S:Sto}(h:S[a]? = some (.lst us)):yu a us c g fr (d::ds) S=(c (some d::fr) S).bind fun p=>if p.1=true then (g (some d::fr) p.2).bind fun q=>(yu a us c g fr ds q.2).bind fun r=>some (q.1::r.1,r.2)else yu a us c g fr ds p.2:=by rw[yu,z64 h]
end F
namespace Srt
open PySem PyProof.Rows
def xi:Bool->Keyed->Array Keyed->Nat->Nat->Nat->StateT SortSt Sem (Option Nat):=sortPriv% PySem.Builtin.gallop
def zjd(beyond:Nat->StateT SortSt Sem (Option Bool))(n hint:Nat):StateT SortSt Sem (Option Nat):=do
 let mut lastofs:=0
 let mut ofs:=1
 let mut lo:=0
 let mut hi:=0
 let some right <-beyond hint | return none
 if right then
   let maxofs:=n-hint
   for _ in [0:n] do
     if ofs ≥ maxofs then break
     let some more <-beyond (hint+ofs) | return none
     if !more then break
     lastofs:=ofs
     ofs:=2*ofs+1
   lo:=hint+lastofs+1
   hi:=hint+min ofs maxofs
 else
   let maxofs:=hint+1
   for _ in [0:n] do
     if ofs ≥ maxofs then break
     let some found <-beyond (hint-ofs) | return none
     if found then break
     lastofs:=ofs
     ofs:=2*ofs+1
   lo:=hint+1-min ofs maxofs
   hi:=hint-lastofs
 for _ in [0:n] do
   if lo ≥ hi then break
   let m:=lo+(hi-lo)/2
   let some more <-beyond m | return none
   if more then lo:=m+1 else hi:=m
 return some hi
def byd(left:Bool)(key:Keyed)(arr:Array Keyed)(base i:Nat):StateT SortSt Sem (Option Bool):=do
 let x <-elem' arr (base+i)
 if left then lt' x key else return(<-lt' key x).map (!·)
theorem zbj(left:Bool)(key:Keyed)(arr:Array Keyed)(base n hint:Nat):xi left key arr base n hint=zjd (byd left key arr base) n hint:=rfl
section
variable {M:Model}{A:Around}{E:zVP}{s:Shared}{n hint:Nat}{P:Nat->Bool}{beyond:Nat->StateT SortSt Sem (Option Bool)}{st:SortSt}
def zto(beyond:Nat->StateT SortSt Sem (Option Bool))(n:Nat)(c:Option (Option Nat)×Nat×Nat):StateT SortSt Sem (Option (Option Nat)×Nat×Nat) :=
 forIn [0:n] c fun x __s=>
   if __s.snd.fst ≥ __s.snd.snd then pure (ForInStep.done (none,__s.snd.fst,__s.snd.snd))
   else do
     let __x <-beyond (__s.snd.fst+(__s.snd.snd-__s.snd.fst)/2)
     match __x with
     | some more=>
       if more=true then pure (ForInStep.yield (none,__s.snd.fst+(__s.snd.snd-__s.snd.fst)/2+1,__s.snd.snd))
       else pure (ForInStep.yield (none,__s.snd.fst,__s.snd.fst+(__s.snd.snd-__s.snd.fst)/2))
     |_=>pure (ForInStep.done (some none,__s.snd.fst,__s.snd.snd))
theorem zey(hb:∀i,i<n->∀Q:Option Bool->SortSt->Prop,Q (some (P i)) st->wpS M A E s (beyond i) Q st)(hP:∀i j,i<=j->j<n->P j=true->P i=true){lo hi:Nat}(h1:lo<=hi)(h2:hi<=n)(h3:∀i,i<lo->P i=true)(h4:∀i,hi<=i->i<n->P i=false){Q:Option (Option Nat)×Nat×Nat->SortSt->Prop}
   (h:∀k,k<=n->(∀i,i<k->P i=true)->(∀i,k<=i->i<n->P i=false)->Q (none,k,k) st):wpS M A E s (zto beyond n (none,lo,hi)) Q st:=by
 unfold zto;refine z8b (I:=fun x c st'=>st'=st/\∃lo hi,c=(none,lo,hi)/\lo<=hi/\hi<=n/\(∀i,i<lo->P i=true)/\(∀i,hi<=i->i<n->P i=false)/\hi+x<=n+lo) ?_ ?_ ⟨rfl,lo,hi,rfl,h1,h2,h3,h4,z67 h2 (z63 ..)⟩
 · rintro x c st' _ hx ⟨rfl,lo,hi,rfl,h1,h2,h3,h4,h5⟩;dsimp only;by_cases e:lo ≥ hi
   · rw[z64 e];cases z9s h1 e;exact z66 (h lo h2 h3 h4)
   · rw[z7a e];have m1:lo<=lo+(hi-lo)/2:=z63 ..;have m2:lo+(hi-lo)/2<hi:=by omega
     clear e h1;generalize lo+(hi-lo)/2=m at m1 m2 ⊢;have mn:=z6p m2 h2;refine z6z (hb _ mn _ ?_);dsimp only;cases hm:P m
     · simp only[z7c,z8d];refine z66 ⟨rfl,lo,m,rfl,m1,z8h mn,h3,fun i hi1 hi2=>?_,by omega⟩;cases q:P i
       · rfl
       · rw[hP _ _ hi1 hi2 q]at hm;cases hm
     · simp only[z8f];exact z66 ⟨rfl,m+1,hi,rfl,m2,h2,fun i hi1=>hP i _ (qa2 hi1) mn hm,h4,by omega⟩
 · rintro c st' ⟨rfl,lo,hi,rfl,h1,h2,h3,h4,h5⟩;have:lo=hi:=by omega
   subst this;exact h lo h2 h3 h4
theorem zae(hb:∀i,i<n->∀Q:Option Bool->SortSt->Prop,Q (some (P i)) st->wpS M A E s (beyond i) Q st)(hP:∀i j,i<=j->j<n->P j=true->P i=true)(hh:hint<n){Q:Option Nat->SortSt->Prop}
   (h:∀k,k<=n->(∀i,i<k->P i=true)->(∀i,k<=i->i<n->P i=false)->Q (some k) st):wpS M A E s (zjd beyond n hint) Q st:=by
 unfold zjd;refine z6z (hb hint hh _ ?_);dsimp only;cases hr:P hint
 · simp only[z7c,z8d];refine z6z (z8k (z8b (I:=fun x c st'=>st'=st/\∃l o,c=(none,l,o)/\l<o/\l<=hint/\P (hint-l)=false/\x<=o)
     (Q:=fun c st'=>st'=st/\∃l o,c=(none,l,o)/\l<o/\l<=hint/\P (hint-l)=false/\(hint+1<=o\/P (hint-o)=true)) ?_ ?_ ⟨rfl,0,1,rfl,Nat.one_pos,z7k _,hr,z7k _⟩) ?_)
   · rintro x c st' _ hx ⟨rfl,l,o,rfl,g1,g2,g3,g4⟩;dsimp only;by_cases e:o ≥ hint+1
     · rw[z64 e];exact z66 ⟨rfl,l,o,rfl,g1,g2,g3,.inl e⟩
     · rw[z7a e];refine z6z (hb _ (z8c (qcc ..) hh) _ ?_);dsimp only;cases hm:P (hint-o)
       · simp only[z7c,z8d];have e':=Nat.lt_of_not_le e;clear e g1 g2 hx hh;exact z66 ⟨rfl,o,2*o+1,rfl,by omega,qa2 e',hm,by omega⟩
       · simp only[z8f];exact z66 ⟨rfl,l,o,rfl,g1,g2,g3,.inr hm⟩
   · rintro c st' ⟨rfl,l,o,rfl,g1,g2,g3,g4⟩;exact⟨rfl,l,o,rfl,g1,g2,g3,.inl (by omega)⟩
   · rintro c st2 ⟨rfl,l,o,rfl,g1,g2,g3,g4⟩;dsimp only;refine z6z (z8k (zey hb hP (lo:=hint+1-min o (hint+1)) (hi:=hint-l) (by omega) (by omega) (fun i hi=>?_) (fun i h1 h2=>?_) (Q:=fun c st'=>st'=st2/\∃k,c=(none,k,k)/\k<=n/\(∀i,i<k->P i=true)/\(∀i,k<=i->i<n->P i=false)) fun k k1 k2 k3=>⟨rfl,k,rfl,k1,k2,k3⟩) ?_)
     · rcases g4 with g4 | g4
       · omega
       · exact hP i _ (by omega) (by omega) g4
     · cases q:P i
       · rfl
       · rw[hP _ _ h1 h2 q]at g3;cases g3
     · rintro c st' ⟨rfl,k,rfl,k1,k2,k3⟩;exact z66 (h k k1 k2 k3)
 · simp only[z8f];refine z6z (z8k (z8b (I:=fun x c st'=>st'=st/\∃l o,c=(none,l,o)/\l<o/\hint+l<n/\P (hint+l)=true/\x<=o)
     (Q:=fun c st'=>st'=st/\∃l o,c=(none,l,o)/\l<o/\hint+l<n/\P (hint+l)=true/\(n-hint<=o\/P (hint+o)=false)) ?_ ?_ ⟨rfl,0,1,rfl,Nat.one_pos,hh,hr,z7k _⟩) ?_)
   · rintro x c st' _ hx ⟨rfl,l,o,rfl,g1,g2,g3,g4⟩;dsimp only;by_cases e:o ≥ n-hint
     · rw[z64 e];exact z66 ⟨rfl,l,o,rfl,g1,g2,g3,.inl e⟩
     · rw[z7a e];have e':hint+o<n:=by clear g1 g2 g4 hx hh;omega
       refine z6z (hb _ e' _ ?_);dsimp only;cases hm:P (hint+o)
       · simp only[qca,z8f];exact z66 ⟨rfl,l,o,rfl,g1,g2,g3,.inr hm⟩
       · simp only[z9y,z7c,z8d];clear e g1 g2 hx hh;exact z66 ⟨rfl,o,2*o+1,rfl,by omega,e',hm,by omega⟩
   · rintro c st' ⟨rfl,l,o,rfl,g1,g2,g3,g4⟩;exact⟨rfl,l,o,rfl,g1,g2,g3,.inl (by omega)⟩
   · rintro c st2 ⟨rfl,l,o,rfl,g1,g2,g3,g4⟩;dsimp only;refine z6z (z8k (zey hb hP (lo:=hint+l+1) (hi:=hint+min o (n-hint)) (by omega) (by omega) (fun i hi=>hP i _ (qa2 hi) g2 g3) (fun i h1 h2=>?_) (Q:=fun c st'=>st'=st2/\∃k,c=(none,k,k)/\k<=n/\(∀i,i<k->P i=true)/\(∀i,k<=i->i<n->P i=false)) fun k k1 k2 k3=>⟨rfl,k,rfl,k1,k2,k3⟩) ?_)
     · rcases g4 with g4 | g4
       · omega
       · cases q:P i
         · rfl
         · rw[hP (hint+o) i (by omega) h2 q]at g4;cases g4
     · rintro c st' ⟨rfl,k,rfl,k1,k2,k3⟩;exact z66 (h k k1 k2 k3)
end
def zf3:Array Keyed->Array Keyed->StateT SortSt Sem (Array Keyed):=sortPriv% PySem.Builtin.mergeLo
def zf4:Array Keyed->Array Keyed->StateT SortSt Sem (Array Keyed):=sortPriv% PySem.Builtin.mergeHi
abbrev zb1(st:SortSt)(g:Nat):SortSt:=SortSt.mk' (kindOf st) (arrOf st) (pendingOf st) g (failedOf st)
def smg(g:Nat):StateT SortSt Sem Unit:=modify fun st=>zb1 st g
theorem zi4(a b:Array Keyed):zf3 a b=(do
 rule "list.sort.merge-lo"
 let total:=a.size+b.size
 let done (out:Array Keyed) (ia ib:Nat):=out++a.extract ia a.size++b.extract ib b.size
 let lastOfA (out:Array Keyed) (ia ib:Nat):=out++b.extract ib b.size++a.extract ia a.size
 let mut out:Array Keyed:=#[<-elem' b 0]
 let mut ia:=0
 let mut ib:=1
 if ib==b.size then return done out ia ib
 if ia+1==a.size then return lastOfA out ia ib
 let mut minGallop:=gallopOf (<-get)
 for _ in [0:total] do
   let mut acount:=0
   let mut bcount:=0
   for _ in [0:total] do
     let some bWins <-lt' (<-elem' b ib) (<-elem' a ia) | return done out ia ib
     if bWins then
       out:=out.push (<-elem' b ib);ib:=ib+1;bcount:=bcount+1;acount:=0
       if ib==b.size then return done out ia ib
       if bcount ≥ minGallop then break
     else
       out:=out.push (<-elem' a ia);ia:=ia+1;acount:=acount+1;bcount:=0
       if ia+1==a.size then return lastOfA out ia ib
       if acount ≥ minGallop then break
   rule "list.sort.gallop"
   minGallop:=minGallop+1
   for _ in [0:total] do
     if minGallop>1 then minGallop:=minGallop-1
     smg minGallop
     let some k <-xi false (<-elem' b ib) a ia (a.size-ia) 0 | return done out ia ib
     acount:=k
     if k>0 then
       out:=out++a.extract ia (ia+k);ia:=ia+k
       if ia+1==a.size then return lastOfA out ia ib
       if ia==a.size then return done out ia ib
     out:=out.push (<-elem' b ib);ib:=ib+1
     if ib==b.size then return done out ia ib
     let some k <-xi true (<-elem' a ia) b ib (b.size-ib) 0 | return done out ia ib
     bcount:=k
     if k>0 then
       out:=out++b.extract ib (ib+k);ib:=ib+k
       if ib==b.size then return done out ia ib
     out:=out.push (<-elem' a ia);ia:=ia+1
     if ia+1==a.size then return lastOfA out ia ib
     if acount<7&&bcount<7 then break
   minGallop:=minGallop+1
   smg minGallop
 unsupported "internal:list.sort.merge-bound"):=rfl
section
variable {blt:Keyed->Keyed->Bool}
def le(blt:Keyed->Keyed->Bool)(x y:Keyed):Prop:=blt y x=false
structure Mg (blt:Keyed->Keyed->Bool) (T O A B:List Keyed):Prop where
 pa:(O++A).Pairwise (le blt)
 pb:(O++B).Pairwise (le blt)
 pm:(O++(A++B)).Perm T
def zxa(blt:Keyed->Keyed->Bool)(T:List Keyed)(r:List Keyed):Prop:=r.Pairwise (le blt)/\r.Perm T
variable {T O A B C:List Keyed}
theorem Mg.chunkA(h:Mg blt T O (C++A) B)(hc:∀x∈C,∀z∈B,le blt x z):Mg blt T (O++C) A B:=by
 refine⟨by rw[z61];exact h.pa,?_,?_⟩
 · have h1:=z6t.mp h.pa;have h2:=z6t.mp h.pb;have h3:=z6t.mp h1.2.1;refine z6t.mpr ⟨z6t.mpr ⟨h1.1,h3.1,fun x hx y hy=>h1.2.2 x hx y (z7y _ hy)⟩,h2.2.1,fun x hx z hz=>?_⟩;rcases z62.mp hx with hx | hx
   · exact h2.2.2 x hx z hz
   · exact hc x hx z hz
 · have:=h.pm;rw[z61]at this ⊢;exact this
theorem Mg.chunkB(h:Mg blt T O A (C++B))(hc:∀x∈C,∀z∈A,le blt x z):Mg blt T (O++C) A B:=by
 refine⟨?_,by rw[z61];exact h.pb,?_⟩
 · have h1:=z6t.mp h.pb;have h2:=z6t.mp h.pa;have h3:=z6t.mp h1.2.1;refine z6t.mpr ⟨z6t.mpr ⟨h1.1,h3.1,fun x hx y hy=>h1.2.2 x hx y (z7y _ hy)⟩,h2.2.1,fun x hx z hz=>?_⟩;rcases z62.mp hx with hx | hx
   · exact h2.2.2 x hx z hz
   · exact hc x hx z hz
 · refine List.Perm.trans ?_ h.pm;rw[z61];refine z9l O ?_;rw[<-z61,<-z61];exact z9j B z98
theorem Mg.finA(h:Mg blt T O A []):zxa blt T (O++A):=⟨h.pa,by have:=h.pm;rw[z7h]at this;exact this⟩
theorem Mg.finB(h:Mg blt T O [] B):zxa blt T (O++B):=⟨h.pb,h.pm⟩
theorem Mg.lastA{x:Keyed}(h:Mg blt T O [x] B)(hx:∀z∈B,le blt z x):zxa blt T (O++(B++[x])):=by
 refine⟨?_,List.Perm.trans (z9l O z98) h.pm⟩;have h1:=z6t.mp h.pa;have h2:=z6t.mp h.pb;refine z6t.mpr ⟨h1.1,z6t.mpr ⟨h2.2.1,z9a _ _,fun z hz y hy=>by rw[z6q.mp hy];exact hx z hz⟩,fun y hy z hz=>?_⟩;rcases z62.mp hz with hz | hz
 · exact h2.2.2 y hy z hz
 · exact h1.2.2 y hy z hz
theorem Mg.len(h:Mg blt T O A B):O.length+A.length+B.length=T.length:=by have:=h.pm.length_eq;simp only[z6k]at this;omega
def ix(a:Array Keyed)(i:Nat):Keyed:=(a[i]?).getD (.none,.none)
variable {a b:Array Keyed}{i j k:Nat}
theorem zk1(h:i<a.size):a[i]? = some (ix a i):=by unfold ix;rw[z7m h];rfl
theorem zjl(h:i<a.size):a.toList.drop i=ix a i::a.toList.drop (i+1):=by
 have e:a.toList[i]'(by simpa using h)=ix a i:=by unfold ix;rw[z7m h];simp
 rw[<-e];exact z70 (by simpa using h)
theorem zqc(h:i+k<=a.size):a.toList.drop i=(a.extract i (i+k)).toList++a.toList.drop (i+k):=by rw[z8w,List.extract_eq_drop_take];rw[show i+k-i=k by omega,<-qa4];exact(z76 k _).symm
theorem zkx{x:Keyed}(h:x∈(a.extract i (i+k)).toList):∃j,j<k/\i+j<a.size/\x=ix a (i+j):=by rw[z8w,List.extract_eq_drop_take,show i+k-i=k by omega]at h;obtain⟨j,hj,e⟩:=z7i h;rw[z7e,z7f,Array.length_toList]at hj;refine⟨j,by omega,by omega,?_⟩;rw[z9c,z9d]at e;rw[<-e];unfold ix;rw[z7m (by omega)];simp
theorem zbg{x:Keyed}(h:x∈a.toList.drop i):∃j,i<=j/\j<a.size/\x=ix a j:=by obtain⟨j,hj,e⟩:=z7i h;rw[z7f,Array.length_toList]at hj;refine⟨i+j,by omega,by omega,?_⟩;rw[z9d]at e;rw[<-e];unfold ix;rw[z7m (by omega)];simp
theorem yp(h:i<a.size):ix a i∈a.toList:=by
 have e:a.toList[i]'(by simpa using h)=ix a i:=by unfold ix;rw[z7m h];simp
 rw[<-e];exact z87 _
theorem zlc:(a.extract i a.size).toList=a.toList.drop i:=by rw[z8w,List.extract_eq_drop_take];rw[<-Array.length_toList,z7x (by rw[z7f];omega)]
def zq3(blt:Keyed->Keyed->Bool)(a:Array Keyed):Prop:=∀i j,i<=j->j<a.size->le blt (ix a i) (ix a j)
theorem zft(h:zq3 blt a):a.toList.Pairwise (le blt):=by
 rw[z82];intro i j hi hj hij;have e:∀{i} (h:i<a.toList.length),a.toList[i]=ix a i:=fun {i} h=>by rw[Array.length_toList]at h;unfold ix;rw[z7m h];simp
 rw[e hi,e hj];exact h i j (by omega) (by rw[Array.length_toList]at hj;exact hj)
end
section
variable {prog:Program}{w:World}{A:Around}{E:zVP}{s:Shared}{blt:Keyed->Keyed->Bool}{U:Keyed->Prop}{kd:SortKind}{st:SortSt}{a b:Array Keyed}
structure Cmp (prog:Program) (w:World) (A:Around) (E:zVP) (s:Shared) (kd:SortKind) (U:Keyed->Prop) (blt:Keyed->Keyed->Bool):Prop where
 lt:∀x y,U x->U y->∀(st:SortSt) (Q:Option Bool->SortSt->Prop),kindOf st=kd->Q (some (blt x y)) st->wpS (model prog w) A E s (lt' x y) Q st
 asy:∀x y,blt x y=true->blt y x=false
 tr:∀x y z,blt y x=false->blt z y=false->blt z x=false
theorem ql{i:Nat}{Q:Keyed->SortSt->Prop}{M:Model}(hi:i<a.size)(h:Q (ix a i) st):wpS M A E s (elem' a i) Q st:=by rw[elem'_eq,zk1 hi];exact z66 h
theorem zbe{nm:String}{Q:Unit->SortSt->Prop}(h:Q () st):wpS (model prog w) A E s (liftM (rule nm):StateT SortSt Sem Unit) Q st:=wpS_lift (wpAny_rule ⟨rfl,h⟩)
theorem zfo{g:Nat}{Q:Unit->SortSt->Prop}{M:Model}(h:Q () (zb1 st g)):wpS M A E s (smg g) Q st:=z93 h
theorem zj3(C:Cmp prog w A E s kd U blt)(hk:kindOf st=kd){y:Keyed}{i n hint:Nat}(uy:U y)(ua:∀x∈a.toList,U x)(sa:zq3 blt a)(hn:i+n<=a.size)(hh:hint<n){Q:Option Nat->SortSt->Prop}
   (h:∀k,k<=n->(∀j,j<k->le blt (ix a (i+j)) y)->(∀j,k<=j->j<n->blt y (ix a (i+j))=true)->Q (some k) st):wpS (model prog w) A E s (xi false y a i n hint) Q st:=by
 rw[zbj];refine zae (P:=fun j=>!(blt y (ix a (i+j)))) (fun j hj Q hq=>?_) (fun j l hjl hl hp=>?_) hh fun k k1 k2 k3=>h k k1 (fun j hj=>by have:=k2 j hj;unfold le;simpa using this) (fun j h1 h2=>by have:=k3 j h1 h2;simpa using this)
 · unfold byd;refine z6z (ql (by omega) ?_);simp only[z7c,z8d];exact z6z (C.lt _ _ uy (ua _ (yp (by omega))) _ _ hk (z66 hq))
 · have e:blt y (ix a (i+l))=false:=by simpa using hp
   have:=C.tr _ _ _ (sa (i+j) (i+l) (by omega) (by omega)) e;simp[this]
theorem zj2(C:Cmp prog w A E s kd U blt)(hk:kindOf st=kd){x:Keyed}{i n hint:Nat}(ux:U x)(ub:∀x∈b.toList,U x)(sb:zq3 blt b)(hn:i+n<=b.size)(hh:hint<n){Q:Option Nat->SortSt->Prop}
   (h:∀k,k<=n->(∀j,j<k->blt (ix b (i+j)) x=true)->(∀j,k<=j->j<n->le blt x (ix b (i+j)))->Q (some k) st):wpS (model prog w) A E s (xi true x b i n hint) Q st:=by
 rw[zbj];refine zae (P:=fun j=>blt (ix b (i+j)) x) (fun j hj Q hq=>?_) (fun j l hjl hl hp=>?_) hh h
 · unfold byd;refine z6z (ql (by omega) ?_);simp only[z8f];exact C.lt _ _ (ub _ (yp (by omega))) ux _ _ hk hq
 · cases q:blt (ix b (i+j)) x
   · have:=C.tr x (ix b (i+j)) (ix b (i+l)) q (sb (i+j) (i+l) (by omega) (by omega));rw[this]at hp;cases hp
   · rfl
structure At (blt:Keyed->Keyed->Bool) (a b out:Array Keyed) (ia ib:Nat):Prop where
 ha:ia+1<a.size
 hb:ib<b.size
 mg:Mg blt (a.toList++b.toList) out.toList (a.toList.drop ia) (b.toList.drop ib)
structure Two (blt:Keyed->Keyed->Bool) (U:Keyed->Prop) (a b:Array Keyed):Prop where
 sa:zq3 blt a
 sb:zq3 blt b
 ua:∀x∈a.toList,U x
 ub:∀x∈b.toList,U x
 la:∀z∈b.toList,le blt z (ix a (a.size-1))
abbrev y4(blt:Keyed->Keyed->Bool)(a b r:Array Keyed):Prop:=zxa blt (a.toList++b.toList) r.toList
variable {out:Array Keyed}{ia ib k:Nat}
theorem At.le(h:At blt a b out ia ib):out.size+3<=a.size+b.size:=by have:=h.mg.len;simp only[z7f,z6k,Array.length_toList]at this;have:=h.ha;have:=h.hb;omega
theorem zcf(m:Mg blt (a.toList++b.toList) out.toList (a.toList.drop ia) (b.toList.drop ib))(hb:ib=b.size\/ia=a.size):y4 blt a b (out++a.extract ia++b.extract ib):=by
 unfold y4;rw[z7q,z7q,zlc,zlc];rcases hb with rfl | rfl
 · rw[z8i (l:=b.toList) (by simp)]at m ⊢;rw[z7h];exact m.finA
 · rw[z8i (l:=a.toList) (by simp)]at m ⊢;rw[z7h];exact m.finB
theorem zdb(T:Two blt U a b)(m:Mg blt (a.toList++b.toList) out.toList (a.toList.drop ia) (b.toList.drop ib))(ha:ia+1=a.size):y4 blt a b (out++b.extract ib++a.extract ia):=by
 unfold y4;rw[z7q,z7q,zlc,zlc,z61];have e:a.toList.drop ia=[ix a ia]:=by rw[zjl (by omega),z8i (by simp;omega)]
 rw[e]at m ⊢;refine m.lastA fun z hz=>?_;have:=T.la z (z8x hz);rw[show a.size-1=ia by omega]at this;exact this
theorem zod(C:Cmp prog w A E s kd U blt)(T:Two blt U a b)(m:Mg blt (a.toList++b.toList) out.toList (a.toList.drop ia) (b.toList.drop ib))(hb:ib<b.size)(ha:ia<a.size->blt (ix b ib) (ix a ia)=true):Mg blt (a.toList++b.toList) (out.push (ix b ib)).toList (a.toList.drop ia) (b.toList.drop (ib+1)):=by rw[zjl hb]at m;rw[qah];refine Mg.chunkB (C:=[ix b ib]) m fun x hx z hz=>?_;rw[z6q.mp hx];obtain⟨j,j1,j2,rfl⟩:=zbg hz;exact C.tr _ _ _ (C.asy _ _ (ha (by omega))) (T.sa ia j j1 j2)
theorem zts(C:Cmp prog w A E s kd U blt)(T:Two blt U a b)(m:Mg blt (a.toList++b.toList) out.toList (a.toList.drop ia) (b.toList.drop ib))(ha:ia<a.size)(hb:ib<b.size->le blt (ix a ia) (ix b ib)):Mg blt (a.toList++b.toList) (out.push (ix a ia)).toList (a.toList.drop (ia+1)) (b.toList.drop ib):=by rw[zjl ha]at m;rw[qah];refine Mg.chunkA (C:=[ix a ia]) m fun x hx z hz=>?_;rw[z6q.mp hx];obtain⟨j,j1,j2,rfl⟩:=zbg hz;exact C.tr _ _ _ (hb (by omega)) (T.sb ib j j1 j2)
theorem zxt(C:Cmp prog w A E s kd U blt)(T:Two blt U a b)(m:Mg blt (a.toList++b.toList) out.toList (a.toList.drop ia) (b.toList.drop ib))(hk:ia+k<=a.size)(h:∀j,j<k->le blt (ix a (ia+j)) (ix b ib)):Mg blt (a.toList++b.toList) (out++a.extract ia (ia+k)).toList (a.toList.drop (ia+k)) (b.toList.drop ib):=by rw[zqc hk]at m;rw[z7q];refine Mg.chunkA m fun x hx z hz=>?_;obtain⟨j,j1,j2,rfl⟩:=zkx hx;obtain⟨l,l1,l2,rfl⟩:=zbg hz;exact C.tr _ _ _ (h j j1) (T.sb ib l l1 l2)
theorem zxs(C:Cmp prog w A E s kd U blt)(T:Two blt U a b)(m:Mg blt (a.toList++b.toList) out.toList (a.toList.drop ia) (b.toList.drop ib))(hk:ib+k<=b.size)(h:∀j,j<k->blt (ix b (ib+j)) (ix a ia)=true):Mg blt (a.toList++b.toList) (out++b.extract ib (ib+k)).toList (a.toList.drop ia) (b.toList.drop (ib+k)):=by rw[zqc hk]at m;rw[z7q];refine Mg.chunkB m fun x hx z hz=>?_;obtain⟨j,j1,j2,rfl⟩:=zkx hx;obtain⟨l,l1,l2,rfl⟩:=zbg hz;exact C.tr _ _ _ (C.asy _ _ (h j j1)) (T.sa ia l l1 l2)
end
section
variable {prog:Program}{w:World}{A:Around}{E:zVP}{s:Shared}{blt:Keyed->Keyed->Bool}{U:Keyed->Prop}{kd:SortKind}{st:SortSt}{a b:Array Keyed}
abbrev Gs:=Option (Array Keyed)×Array Keyed×Nat×Nat×Nat×Nat×Nat
def zrl(a b out:Array Keyed)(ia ib mg k k1:Nat):StateT SortSt Sem (ForInStep Gs):=do
 let x <-elem' a ia
 if(ia+1+1==a.size)=true then pure (ForInStep.done (some (out.push x++b.extract ib++a.extract (ia+1)),out.push x,ia+1,ib,mg,k,k1))
 else if(decide (k<7)&&decide (k1<7))=true then pure (ForInStep.done (none,out.push x,ia+1,ib,mg,k,k1))else pure (ForInStep.yield (none,out.push x,ia+1,ib,mg,k,k1))
def zrm(a b out:Array Keyed)(ia ib mg k bc:Nat):StateT SortSt Sem (ForInStep Gs):=do
 let y <-elem' b ib
 if(ib+1==b.size)=true then pure (ForInStep.done (some (out.push y++a.extract ia++b.extract (ib+1)),out.push y,ia,ib+1,mg,k,bc))
 else do
   let x <-elem' a ia
   let r <-xi true x b (ib+1) (b.size-(ib+1)) 0
   match r with
   | some k1=>
     if k1>0 then
       if(ib+1+k1==b.size)=true then pure (ForInStep.done (some (out.push y++b.extract (ib+1) (ib+1+k1)++a.extract ia++b.extract (ib+1+k1)),out.push y++b.extract (ib+1) (ib+1+k1),ia,ib+1+k1,mg,k,k1))
       else zrl a b (out.push y++b.extract (ib+1) (ib+1+k1)) ia (ib+1+k1) mg k k1
     else zrl a b (out.push y) ia (ib+1) mg k k1
   |_=>pure (ForInStep.done (some (out.push y++a.extract ia++b.extract (ib+1)),out.push y,ia,ib+1,mg,k,bc))
def z1t(a b out:Array Keyed)(ia ib mg ac bc:Nat):StateT SortSt Sem (ForInStep Gs):=do
 smg mg
 let y <-elem' b ib
 let r <-xi false y a ia (a.size-ia) 0
 match r with
 | some k=>
   if k>0 then
     if(ia+k+1==a.size)=true then pure (ForInStep.done (some (out++a.extract ia (ia+k)++b.extract ib++a.extract (ia+k)),out++a.extract ia (ia+k),ia+k,ib,mg,k,bc))
     else if(ia+k==a.size)=true then pure (ForInStep.done (some (out++a.extract ia (ia+k)++a.extract (ia+k)++b.extract ib),out++a.extract ia (ia+k),ia+k,ib,mg,k,bc))
     else zrm a b (out++a.extract ia (ia+k)) (ia+k) ib mg k bc
   else zrm a b out ia ib mg k bc
 |_=>pure (ForInStep.done (some (out++a.extract ia++b.extract ib),out,ia,ib,mg,ac,bc))
def Lp(blt:Keyed->Keyed->Bool)(a b:Array Keyed)(N:Nat)(st:SortSt)(r:ForInStep Gs)(st2:SortSt):Prop:=∃g2,st2=zb1 st g2/\((∃out2 ia2 ib2 mg2 ac2 bc2,(r=.done (none,out2,ia2,ib2,mg2,ac2,bc2)\/r=.yield (none,out2,ia2,ib2,mg2,ac2,bc2))/\At blt a b out2 ia2 ib2/\N<=out2.size)\/∃v q,r=.done (some v,q)/\y4 blt a b v)
variable {out:Array Keyed}{ia ib mg k k1 ac bc N:Nat}
theorem zg5(C:Cmp prog w A E s kd U blt)(T:Two blt U a b){g:Nat}(m:Mg blt (a.toList++b.toList) out.toList (a.toList.drop ia) (b.toList.drop ib))(ha:ia+1<a.size)(hb:ib<b.size)(hx:le blt (ix a ia) (ix b ib))(hN:N<=out.size):wpS (model prog w) A E s (zrl a b out ia ib mg k k1) (Lp blt a b N st) (zb1 st g):=by
 unfold zrl;refine z6z (ql (by omega) ?_);have m2:=zts C T m (by omega) fun _=>hx;by_cases f1:ia+1+1=a.size
 · rw[z64 (by simpa using f1)];exact z66 ⟨g,rfl,.inr ⟨_,_,rfl,zdb T m2 f1⟩⟩
 · rw[z7a (by simpa using f1)];have at2:At blt a b (out.push (ix a ia)) (ia+1) ib:=⟨by omega,hb,m2⟩
   split
   · exact z66 ⟨g,rfl,.inl ⟨_,_,_,_,_,_,.inl rfl,at2,by rw[z7t];omega⟩⟩
   · exact z66 ⟨g,rfl,.inl ⟨_,_,_,_,_,_,.inr rfl,at2,by rw[z7t];omega⟩⟩
theorem zg6(C:Cmp prog w A E s kd U blt)(T:Two blt U a b)(hk:kindOf st=kd){g:Nat}(m:Mg blt (a.toList++b.toList) out.toList (a.toList.drop ia) (b.toList.drop ib))(ha:ia+1<a.size)(hb:ib<b.size)(hy:blt (ix b ib) (ix a ia)=true)(hN:N<=out.size):wpS (model prog w) A E s (zrm a b out ia ib mg k bc) (Lp blt a b N st) (zb1 st g):=by
 unfold zrm;refine z6z (ql hb ?_);have m2:=zod C T m hb fun _=>hy;by_cases f1:ib+1=b.size
 · rw[z64 (by simpa using f1)];exact z66 ⟨g,rfl,.inr ⟨_,_,rfl,zcf m2 (.inl f1)⟩⟩
 · rw[z7a (by simpa using f1)];refine z6z (ql (by omega) ?_);refine z6z (zj2 (st:=zb1 st g) (x:=ix a ia) (i:=ib+1) (n:=b.size-(ib+1)) (hint:=0) C hk (T.ua _ (yp (by omega))) T.ub T.sb (by omega) (by omega) fun k1 q1 q2 q3=>?_);dsimp only;by_cases f2:k1>0
   · rw[z64 f2];have m3:=zxs C T m2 (k:=k1) (by omega) q2;by_cases f3:ib+1+k1=b.size
     · rw[z64 (by simpa using f3)];exact z66 ⟨g,rfl,.inr ⟨_,_,rfl,zcf m3 (.inl f3)⟩⟩
     · rw[z7a (by simpa using f3)];exact zg5 C T m3 ha (by omega) (q3 k1 (z6l _) (by omega)) (by rw[qa3,z7t];omega)
   · rw[z7a f2];have:k1=0:=by omega
     subst this;exact zg5 C T m2 ha (by omega) (q3 0 (z6l _) (by omega)) (by rw[z7t];omega)
theorem zj1(C:Cmp prog w A E s kd U blt)(T:Two blt U a b)(hk:kindOf st=kd){g:Nat}(m:At blt a b out ia ib)(hN:N<=out.size):wpS (model prog w) A E s (z1t a b out ia ib mg ac bc) (Lp blt a b N st) (zb1 st g):=by
 have p1:=m.ha;have p2:=m.hb;unfold z1t;refine z6z (zfo ?_);refine z6z (ql p2 ?_);refine z6z (zj3 (st:=zb1 st mg) (i:=ia) (n:=a.size-ia) (hint:=0) C hk (T.ub _ (yp p2)) T.ua T.sa (by omega) (by omega) fun k q1 q2 q3=>?_);dsimp only;by_cases f2:k>0
 · rw[z64 f2];have m3:=zxt C T m.mg (k:=k) (by omega) q2;by_cases f3:ia+k+1=a.size
   · rw[z64 (by simpa using f3)];exact z66 ⟨mg,rfl,.inr ⟨_,_,rfl,zdb T m3 f3⟩⟩
   · rw[z7a (by simpa using f3)];by_cases f4:ia+k=a.size
     · rw[z64 (by simpa using f4)];exact z66 ⟨mg,rfl,.inr ⟨_,_,rfl,zcf m3 (.inr f4)⟩⟩
     · rw[z7a (by simpa using f4)];exact zg6 (st:=st) C T hk m3 (by omega) p2 (q3 k (z6l _) (by omega)) (by rw[qa3];omega)
 · rw[z7a f2];have:k=0:=by omega
   subst this;exact zg6 (st:=st) C T hk m.mg p1 p2 (q3 0 (z6l _) (by omega)) hN
theorem zik(C:Cmp prog w A E s kd U blt)(T:Two blt U a b)(hk:kindOf st=kd)(a0:0<a.size)(b0:0<b.size)(hf:blt (ix b 0) (ix a 0)=true){Q:Array Keyed->SortSt->Prop}
   (h:∀r g,y4 blt a b r->Q r (zb1 st g)):wpS (model prog w) A E s (zf3 a b) Q st:=by
 rw[zi4];dsimp only;refine z6z (zbe ?_);refine z6z (ql b0 ?_);have m0:Mg blt (a.toList++b.toList) (#[]:Array Keyed).toList (a.toList.drop 0) (b.toList.drop 0):=⟨zft T.sa,zft T.sb,z94 _⟩
 have m1:=zod C T m0 b0 fun _=>hf;have eg:st=zb1 st (gallopOf st):=rfl;have h':∀r,y4 blt a b r->Q r st:=fun r hr=>by have:=h r (gallopOf st) hr;rw[<-eg]at this;exact this
 by_cases e1:1=b.size
 · rw[z64 (by simpa using e1)];exact z66 (h' _ (zcf m1 (.inl e1)))
 · rw[z7a (by simpa using e1)];by_cases e2:0+1=a.size
   · rw[z64 (by simpa using e2)];exact z66 (h' _ (zdb T m1 e2))
   · rw[z7a (by simpa using e2)];refine z6z (qbd ?_);refine z6z (z8k (z8b
       (I:=fun x c st'=>∃g out ia ib mg,st'=zb1 st g/\c=(none,out,ia,ib,mg)/\At blt a b out ia ib/\x+1<=out.size)
       (Q:=fun c st'=>∃g r,st'=zb1 st g/\c.1=some r/\y4 blt a b r) ?_ ?_ ⟨gallopOf st,#[ix b 0],0,1,gallopOf st,rfl,rfl,⟨by omega,by omega,m1⟩,z6l _⟩) ?_)
     · rintro x c st' _ hx ⟨g,out,ia,ib,mg,rfl,rfl,at0,sz⟩;dsimp only;refine z6z (z8k (z8b
         (I:=fun x1 c1 st1=>∃out1 ia1 ib1 ac bc,st1=zb1 st g/\c1=(none,out1,ia1,ib1,ac,bc)/\At blt a b out1 ia1 ib1/\out.size+x1<=out1.size)
         (Q:=fun c1 st1=>st1=zb1 st g/\((∃out1 ia1 ib1 ac bc,c1=(none,out1,ia1,ib1,ac,bc)/\At blt a b out1 ia1 ib1/\out.size+1<=out1.size)\/∃r q,c1=(some r,q)/\y4 blt a b r)) ?_ ?_ ⟨out,ia,ib,0,0,rfl,rfl,at0,z6l _⟩) ?_)
       · rintro x1 c1 st1 _ hx1 ⟨out1,ia1,ib1,ac,bc,rfl,rfl,at1,sz1⟩;have p1:=at1.ha;have p2:=at1.hb;dsimp only;refine z6z (ql p2 ?_);refine z6z (ql (by omega) ?_);refine z6z (C.lt _ _ (T.ub _ (yp p2)) (T.ua _ (yp (by omega))) _ _ hk ?_);dsimp only;cases hw:blt (ix b ib1) (ix a ia1)
         · simp only[z7c,z8d];refine z6z (ql (by omega) ?_);have m2:=zts C T at1.mg (by omega) fun _=>hw;by_cases f1:ia1+1+1=a.size
           · rw[z64 (by simpa using f1)];exact z66 ⟨rfl,.inr ⟨_,_,rfl,zdb T m2 f1⟩⟩
           · rw[z7a (by simpa using f1)];have at2:At blt a b (out1.push (ix a ia1)) (ia1+1) ib1:=⟨by omega,p2,m2⟩
             split
             · exact z66 ⟨rfl,.inl ⟨_,_,_,_,_,rfl,at2,by rw[z7t];omega⟩⟩
             · exact z66 ⟨_,_,_,_,_,rfl,rfl,at2,by rw[z7t];omega⟩
         · simp only[z8f];refine z6z (ql p2 ?_);have m2:=zod C T at1.mg p2 fun _=>hw;by_cases f1:ib1+1=b.size
           · rw[z64 (by simpa using f1)];exact z66 ⟨rfl,.inr ⟨_,_,rfl,zcf m2 (.inl f1)⟩⟩
           · rw[z7a (by simpa using f1)];have at2:At blt a b (out1.push (ix b ib1)) ia1 (ib1+1):=⟨p1,by omega,m2⟩
             split
             · exact z66 ⟨rfl,.inl ⟨_,_,_,_,_,rfl,at2,by rw[z7t];omega⟩⟩
             · exact z66 ⟨_,_,_,_,_,rfl,rfl,at2,by rw[z7t];omega⟩
       · rintro c1 st1 ⟨out1,ia1,ib1,ac,bc,rfl,rfl,at1,sz1⟩;exact⟨rfl,.inl ⟨_,_,_,_,_,rfl,at1,by omega⟩⟩
       · rintro c1 st1 ⟨rfl,⟨out1,ia1,ib1,ac,bc,rfl,at1,sz1⟩ | ⟨r,q,rfl,gr⟩⟩
         · dsimp only;refine z6z (zbe ?_);refine z6z (z8k (z8b
             (I:=fun x2 c2 st2=>∃g2 out2 ia2 ib2 mg2 ac2 bc2,st2=zb1 st g2/\c2=(none,out2,ia2,ib2,mg2,ac2,bc2)/\At blt a b out2 ia2 ib2/\out.size+1<=out2.size)
             (Q:=fun c2 st2=>∃g2,st2=zb1 st g2/\((∃out2 ia2 ib2 mg2 ac2 bc2,c2=(none,out2,ia2,ib2,mg2,ac2,bc2)/\At blt a b out2 ia2 ib2/\out.size+1<=out2.size)\/∃r q,c2=(some r,q)/\y4 blt a b r)) ?_ ?_ ⟨g,out1,ia1,ib1,mg+1,ac,bc,rfl,rfl,at1,sz1⟩) ?_)
           · rintro x2 c2 st2 _ hx2 ⟨g2,out2,ia2,ib2,mg2,ac2,bc2,rfl,rfl,at2,sz2⟩;dsimp only;show wpS _ _ _ _ (if mg2>1 then z1t a b out2 ia2 ib2 (mg2-1) ac2 bc2 else z1t a b out2 ia2 ib2 mg2 ac2 bc2) _ _;by_cases f0:mg2>1
             · rw[z64 f0];refine z8k (zj1 (st:=st) (N:=out.size+1) C T hk at2 sz2) fun r st2 hr=>?_;rcases hr with⟨g3,rfl,⟨o,i1,i2,mm,c1,c2,e | e,q1,q2⟩ | ⟨v,q,rfl,gv⟩⟩
               · subst e;exact⟨g3,rfl,.inl ⟨o,i1,i2,mm,c1,c2,rfl,q1,q2⟩⟩
               · subst e;exact⟨g3,o,i1,i2,mm,c1,c2,rfl,rfl,q1,q2⟩
               · exact⟨g3,rfl,.inr ⟨v,q,rfl,gv⟩⟩
             · rw[z7a f0];refine z8k (zj1 (st:=st) (N:=out.size+1) C T hk at2 sz2) fun r st2 hr=>?_;rcases hr with⟨g3,rfl,⟨o,i1,i2,mm,c1,c2,e | e,q1,q2⟩ | ⟨v,q,rfl,gv⟩⟩
               · subst e;exact⟨g3,rfl,.inl ⟨o,i1,i2,mm,c1,c2,rfl,q1,q2⟩⟩
               · subst e;exact⟨g3,o,i1,i2,mm,c1,c2,rfl,rfl,q1,q2⟩
               · exact⟨g3,rfl,.inr ⟨v,q,rfl,gv⟩⟩
           · rintro c2 st2 ⟨g2,out2,ia2,ib2,mg2,ac2,bc2,rfl,rfl,at2,sz2⟩;exact⟨g2,rfl,.inl ⟨_,_,_,_,_,_,rfl,at2,sz2⟩⟩
           · rintro c2 st2 ⟨g2,rfl,⟨out2,ia2,ib2,mg2,ac2,bc2,rfl,at2,sz2⟩ | ⟨r,q,rfl,gr⟩⟩
             · dsimp only;refine z6z (zfo ?_);exact z66 ⟨mg2+1,out2,ia2,ib2,mg2+1,rfl,rfl,at2,by omega⟩
             · dsimp only;exact z66 ⟨g2,r,rfl,rfl,gr⟩
         · dsimp only;exact z66 ⟨g,r,rfl,rfl,gr⟩
     · rintro c st' ⟨g,out,ia,ib,mg,rfl,rfl,at0,sz⟩;have:=at0.le;omega
     · rintro c st' ⟨g,r,rfl,e,gr⟩;rw[e];exact z66 (h r g gr)
end
theorem zi5(a b:Array Keyed):zf4 a b=(do
 rule "list.sort.merge-hi"
 let total:=a.size+b.size
 let done (out:Array Keyed) (na nb:Nat):=a.extract 0 na++b.extract 0 nb++out.reverse
 let firstOfB (out:Array Keyed) (na nb:Nat):=b.extract 0 nb++a.extract 0 na++out.reverse
 let mut na:=a.size-1
 let mut nb:=b.size
 let mut out:Array Keyed:=#[<-elem' a na]
 if na==0 then return done out na nb
 if nb==1 then return firstOfB out na nb
 let mut minGallop:=gallopOf (<-get)
 for _ in [0:total] do
   let mut acount:=0
   let mut bcount:=0
   for _ in [0:total] do
     let some aWins <-lt' (<-elem' b (nb-1)) (<-elem' a (na-1)) | return done out na nb
     if aWins then
       na:=na-1;out:=out.push (<-elem' a na);acount:=acount+1;bcount:=0
       if na==0 then return done out na nb
       if acount ≥ minGallop then break
     else
       nb:=nb-1;out:=out.push (<-elem' b nb);bcount:=bcount+1;acount:=0
       if nb==1 then return firstOfB out na nb
       if bcount ≥ minGallop then break
   rule "list.sort.gallop"
   minGallop:=minGallop+1
   for _ in [0:total] do
     if minGallop>1 then minGallop:=minGallop-1
     smg minGallop
     let some at_ <-xi false (<-elem' b (nb-1)) a 0 na (na-1) | return done out na nb
     let k:=na-at_
     acount:=k
     if k>0 then
       out:=out++(a.extract at_ na).reverse;na:=at_
       if na==0 then return done out na nb
     nb:=nb-1;out:=out.push (<-elem' b nb)
     if nb==1 then return firstOfB out na nb
     let some at_ <-xi true (<-elem' a (na-1)) b 0 nb (nb-1) | return done out na nb
     let k:=nb-at_
     bcount:=k
     if k>0 then
       out:=out++(b.extract at_ nb).reverse;nb:=at_
       if nb==1 then return firstOfB out na nb
       if nb==0 then return done out na nb
     na:=na-1;out:=out.push (<-elem' a na)
     if na==0 then return done out na nb
     if acount<7&&bcount<7 then break
   minGallop:=minGallop+1
   smg minGallop
 unsupported "internal:list.sort.merge-bound"):=rfl
section
variable {blt:Keyed->Keyed->Bool}{T O A B C:List Keyed}
structure Mh (blt:Keyed->Keyed->Bool) (T O A B:List Keyed):Prop where
 pa:(A++O).Pairwise (le blt)
 pb:(B++O).Pairwise (le blt)
 pm:(A++(B++O)).Perm T
theorem Mh.chunkA(h:Mh blt T O (A++C) B)(hc:∀x∈C,∀z∈B,le blt z x):Mh blt T (C++O) A B:=by
 have h1:=z6t.mp h.pa;have h2:=z6t.mp h.pb;have h3:=z6t.mp h1.1;refine⟨by rw[<-z61];exact h.pa,?_,?_⟩
 · refine z6t.mpr ⟨h2.1,z6t.mpr ⟨h3.2.1,h1.2.1,fun x hx y hy=>h1.2.2 x (z6x _ hx) y hy⟩,fun z hz x hx=>?_⟩;rcases z62.mp hx with hx | hx
   · exact hc x hx z hz
   · exact h2.2.2 z hz x hx
 · refine List.Perm.trans ?_ h.pm;rw[z61];refine z9l A ?_;rw[<-z61,<-z61];exact z9j O z98
theorem Mh.chunkB(h:Mh blt T O A (B++C))(hc:∀x∈C,∀z∈A,le blt z x):Mh blt T (C++O) A B:=by
 have h1:=z6t.mp h.pb;have h2:=z6t.mp h.pa;have h3:=z6t.mp h1.1;refine⟨?_,by rw[<-z61];exact h.pb,?_⟩
 · refine z6t.mpr ⟨h2.1,z6t.mpr ⟨h3.2.1,h1.2.1,fun x hx y hy=>h1.2.2 x (z6x _ hx) y hy⟩,fun z hz x hx=>?_⟩;rcases z62.mp hx with hx | hx
   · exact hc x hx z hz
   · exact h2.2.2 z hz x hx
 · have:=h.pm;rw[z61]at this;exact this
theorem Mh.finA(h:Mh blt T O A []):zxa blt T (A++O):=⟨h.pa,h.pm⟩
theorem Mh.finB(h:Mh blt T O [] B):zxa blt T (B++O):=⟨h.pb,h.pm⟩
theorem Mh.firstB{x:Keyed}(h:Mh blt T O A [x])(hx:∀z∈A,le blt x z):zxa blt T ([x]++(A++O)):=by
 have h1:=z6t.mp h.pb;refine⟨z6t.mpr ⟨z9a _ _,h.pa,fun y hy z hz=>?_⟩,List.Perm.trans ?_ h.pm⟩
 · rw[z6q.mp hy];rcases z62.mp hz with hz | hz
   · exact hx z hz
   · exact h1.2.2 x (z6q.mpr rfl) z hz
 · rw[<-z61,<-z61];exact z9j O z98
theorem Mh.len(h:Mh blt T O A B):O.length+A.length+B.length=T.length:=by have:=h.pm.length_eq;simp only[z6k]at this;omega
variable {a b:Array Keyed}{i j k:Nat}
theorem ziq(h:i<a.size):a.toList.take (i+1)=a.toList.take i++[ix a i]:=by
 have e:a.toList[i]? = some (ix a i):=by rw[z7u];exact zk1 h
 rw[List.take_add_one,e];rfl
theorem z11:(a.extract 0 i).toList=a.toList.take i:=by rw[z8w,List.extract_eq_drop_take,Nat.sub_zero,z9n]
theorem znn(h:i<=j)(hj:j<=a.size):a.toList.take j=a.toList.take i++(a.extract i j).toList:=by
 rw[z8w,List.extract_eq_drop_take];have:a.toList.take j=a.toList.take (i+(j-i)):=by rw[show i+(j-i)=j by omega]
 rw[this,List.take_add]
theorem zc6{x:Keyed}(h:x∈a.toList.take i):∃j,j<i/\j<a.size/\x=ix a j:=by obtain⟨j,hj,e⟩:=z7i h;rw[z7e,Array.length_toList]at hj;refine⟨j,by omega,by omega,?_⟩;rw[z9c]at e;rw[<-e];unfold ix;rw[z7m (by omega)];simp
end
section
variable {prog:Program}{w:World}{A:Around}{E:zVP}{s:Shared}{blt:Keyed->Keyed->Bool}{U:Keyed->Prop}{kd:SortKind}{st:SortSt}{a b:Array Keyed}
structure Ah (blt:Keyed->Keyed->Bool) (a b out:Array Keyed) (na nb:Nat):Prop where
 a0:0<na
 ha:na<=a.size
 b0:1<nb
 hb:nb<=b.size
 mg:Mh blt (a.toList++b.toList) out.toList.reverse (a.toList.take na) (b.toList.take nb)
structure TwoH (blt:Keyed->Keyed->Bool) (U:Keyed->Prop) (a b:Array Keyed):Prop where
 sa:zq3 blt a
 sb:zq3 blt b
 ua:∀x∈a.toList,U x
 ub:∀x∈b.toList,U x
 fb:∀z∈a.toList,le blt (ix b 0) z
variable {out:Array Keyed}{na nb k:Nat}
theorem Ah.le(h:Ah blt a b out na nb):out.size+3<=a.size+b.size:=by have:=h.mg.len;simp only[z7e,z6k,z78,Array.length_toList]at this;have:=h.a0;have:=h.ha;have:=h.b0;have:=h.hb;omega
theorem z0o(m:Mh blt (a.toList++b.toList) out.toList.reverse (a.toList.take na) (b.toList.take nb))(hb:nb=0\/na=0):y4 blt a b (a.extract 0 na++b.extract 0 nb++out.reverse):=by
 unfold y4;rw[z7q,z7q,z11,z11,qai];rcases hb with rfl | rfl
 · rw[List.take_zero]at m ⊢;rw[z7h];exact m.finA
 · rw[List.take_zero]at m ⊢;rw[List.nil_append];exact m.finB
theorem z10(T:TwoH blt U a b)(b0:0<b.size)(m:Mh blt (a.toList++b.toList) out.toList.reverse (a.toList.take na) (b.toList.take nb))(hb:nb=1):y4 blt a b (b.extract 0 nb++a.extract 0 na++out.reverse):=by
 subst hb;unfold y4;rw[z7q,z7q,z11,z11,qai,z61];have e:b.toList.take 1=[ix b 0]:=by have:=ziq b0;rw[List.take_zero]at this;exact this
 rw[e]at m ⊢;exact m.firstB fun z hz=>T.fb z (z7l hz)
theorem ziy(C:Cmp prog w A E s kd U blt)(T:TwoH blt U a b)(m:Mh blt (a.toList++b.toList) out.toList.reverse (a.toList.take (na+1)) (b.toList.take nb))(ha:na<a.size)(hb:nb<=b.size)(h:0<nb->blt (ix b (nb-1)) (ix a na)=true):Mh blt (a.toList++b.toList) (out.push (ix a na)).toList.reverse (a.toList.take na) (b.toList.take nb):=by rw[ziq ha]at m;rw[qah,qal];refine Mh.chunkA (C:=[ix a na]) m fun x hx z hz=>?_;rw[z6q.mp hx];obtain⟨j,j1,j2,rfl⟩:=zc6 hz;exact C.tr _ _ _ (T.sb j (nb-1) (by omega) (by omega)) (C.asy _ _ (h (by omega)))
theorem zoe(C:Cmp prog w A E s kd U blt)(T:TwoH blt U a b)(m:Mh blt (a.toList++b.toList) out.toList.reverse (a.toList.take na) (b.toList.take (nb+1)))(hb:nb<b.size)(ha:na<=a.size)(h:0<na->le blt (ix a (na-1)) (ix b nb)):Mh blt (a.toList++b.toList) (out.push (ix b nb)).toList.reverse (a.toList.take na) (b.toList.take nb):=by rw[ziq hb]at m;rw[qah,qal];refine Mh.chunkB (C:=[ix b nb]) m fun x hx z hz=>?_;rw[z6q.mp hx];obtain⟨j,j1,j2,rfl⟩:=zc6 hz;exact C.tr _ _ _ (T.sa j (na-1) (by omega) (by omega)) (h (by omega))
theorem zuu(C:Cmp prog w A E s kd U blt)(T:TwoH blt U a b)(m:Mh blt (a.toList++b.toList) out.toList.reverse (a.toList.take na) (b.toList.take nb))(hk:k<=na)(ha:na<=a.size)(hb:nb<=b.size)(h:∀j,k<=j->j<na->blt (ix b (nb-1)) (ix a j)=true):Mh blt (a.toList++b.toList) (out++(a.extract k na).reverse).toList.reverse (a.toList.take k) (b.toList.take nb):=by
 rw[znn hk ha]at m;rw[z7q,qal,qai,z89];refine Mh.chunkA m fun x hx z hz=>?_;have hx':x∈(a.extract k (k+(na-k))).toList:=by rw[show k+(na-k)=na by omega];exact hx
 obtain⟨j,j1,j2,rfl⟩:=zkx hx';obtain⟨l,l1,l2,rfl⟩:=zc6 hz;exact C.tr _ _ _ (T.sb l (nb-1) (by omega) (by omega)) (C.asy _ _ (h (k+j) (by omega) (by omega)))
theorem zut(C:Cmp prog w A E s kd U blt)(T:TwoH blt U a b)(m:Mh blt (a.toList++b.toList) out.toList.reverse (a.toList.take na) (b.toList.take nb))(hk:k<=nb)(ha:na<=a.size)(hb:nb<=b.size)(h:∀j,k<=j->j<nb->le blt (ix a (na-1)) (ix b j)):Mh blt (a.toList++b.toList) (out++(b.extract k nb).reverse).toList.reverse (a.toList.take na) (b.toList.take k):=by
 rw[znn hk hb]at m;rw[z7q,qal,qai,z89];refine Mh.chunkB m fun x hx z hz=>?_;have hx':x∈(b.extract k (k+(nb-k))).toList:=by rw[show k+(nb-k)=nb by omega];exact hx
 obtain⟨j,j1,j2,rfl⟩:=zkx hx';obtain⟨l,l1,l2,rfl⟩:=zc6 hz;exact C.tr _ _ _ (T.sa l (na-1) (by omega) (by omega)) (h (k+j) (by omega) (by omega))
end
section
variable {prog:Program}{w:World}{A:Around}{E:zVP}{s:Shared}{blt:Keyed->Keyed->Bool}{U:Keyed->Prop}{kd:SortKind}{st:SortSt}{a b:Array Keyed}
abbrev Hs:=Option (Array Keyed)×Nat×Nat×Array Keyed×Nat×Nat×Nat
def zkf(a b out:Array Keyed)(na nb mg k k1:Nat):StateT SortSt Sem (ForInStep Hs):=do
 let x <-elem' a (na-1)
 if(na-1==0)=true then pure (ForInStep.done (some (a.extract 0 (na-1)++b.extract 0 nb++(out.push x).reverse),na-1,nb,out.push x,mg,k,k1))
 else if(decide (k<7)&&decide (k1<7))=true then pure (ForInStep.done (none,na-1,nb,out.push x,mg,k,k1))else pure (ForInStep.yield (none,na-1,nb,out.push x,mg,k,k1))
def zkg(a b out:Array Keyed)(na nb mg k bc:Nat):StateT SortSt Sem (ForInStep Hs):=do
 let y <-elem' b (nb-1)
 if(nb-1==1)=true then pure (ForInStep.done (some (b.extract 0 (nb-1)++a.extract 0 na++(out.push y).reverse),na,nb-1,out.push y,mg,k,bc))
 else do
   let x <-elem' a (na-1)
   let r <-xi true x b 0 (nb-1) (nb-1-1)
   match r with
   | some t=>
     if nb-1-t>0 then
       if(t==1)=true then pure (ForInStep.done (some (b.extract 0 t++a.extract 0 na++(out.push y++(b.extract t (nb-1)).reverse).reverse),na,t,out.push y++(b.extract t (nb-1)).reverse,mg,k,nb-1-t))
       else if(t==0)=true then pure (ForInStep.done (some (a.extract 0 na++b.extract 0 t++(out.push y++(b.extract t (nb-1)).reverse).reverse),na,t,out.push y++(b.extract t (nb-1)).reverse,mg,k,nb-1-t))
       else zkf a b (out.push y++(b.extract t (nb-1)).reverse) na t mg k (nb-1-t)
     else zkf a b (out.push y) na (nb-1) mg k (nb-1-t)
   |_=>pure (ForInStep.done (some (a.extract 0 na++b.extract 0 (nb-1)++(out.push y).reverse),na,nb-1,out.push y,mg,k,bc))
def zr7(a b out:Array Keyed)(na nb mg ac bc:Nat):StateT SortSt Sem (ForInStep Hs):=do
 smg mg
 let y <-elem' b (nb-1)
 let r <-xi false y a 0 na (na-1)
 match r with
 | some t=>
   if na-t>0 then
     if(t==0)=true then pure (ForInStep.done (some (a.extract 0 t++b.extract 0 nb++(out++(a.extract t na).reverse).reverse),t,nb,out++(a.extract t na).reverse,mg,na-t,bc))
     else zkg a b (out++(a.extract t na).reverse) t nb mg (na-t) bc
   else zkg a b out na nb mg (na-t) bc
 |_=>pure (ForInStep.done (some (a.extract 0 na++b.extract 0 nb++out.reverse),na,nb,out,mg,ac,bc))
def LpH(blt:Keyed->Keyed->Bool)(a b:Array Keyed)(N:Nat)(st:SortSt)(r:ForInStep Hs)(st2:SortSt):Prop:=∃g2,st2=zb1 st g2/\((∃out2 na2 nb2 mg2 ac2 bc2,(r=.done (none,na2,nb2,out2,mg2,ac2,bc2)\/r=.yield (none,na2,nb2,out2,mg2,ac2,bc2))/\Ah blt a b out2 na2 nb2/\N<=out2.size)\/∃v q,r=.done (some v,q)/\y4 blt a b v)
variable {out:Array Keyed}{na nb mg k k1 ac bc N:Nat}
theorem zez(C:Cmp prog w A E s kd U blt)(T:TwoH blt U a b){g:Nat}(m:Mh blt (a.toList++b.toList) out.toList.reverse (a.toList.take na) (b.toList.take nb))(a0:0<na)(ha:na<=a.size)(b0:1<nb)(hb:nb<=b.size)(hx:blt (ix b (nb-1)) (ix a (na-1))=true)(hN:N<=out.size):wpS (model prog w) A E s (zkf a b out na nb mg k k1) (LpH blt a b N st) (zb1 st g):=by
 obtain⟨n1,rfl⟩:∃n1,na=n1+1:=⟨na-1,by omega⟩
 unfold zkf;refine z6z (ql (by omega) ?_);have m2:=ziy C T m (by omega) hb fun _=>hx;simp only[z97]at *;by_cases f1:n1=0
 · rw[z64 (by simpa using f1)];exact z66 ⟨g,rfl,.inr ⟨_,_,rfl,z0o m2 (.inr f1)⟩⟩
 · rw[z7a (by simpa using f1)];have at2:Ah blt a b (out.push (ix a n1)) n1 nb:=⟨by omega,by omega,b0,hb,m2⟩
   split
   · exact z66 ⟨g,rfl,.inl ⟨_,_,_,_,_,_,.inl rfl,at2,by rw[z7t];omega⟩⟩
   · exact z66 ⟨g,rfl,.inl ⟨_,_,_,_,_,_,.inr rfl,at2,by rw[z7t];omega⟩⟩
theorem ze0(C:Cmp prog w A E s kd U blt)(T:TwoH blt U a b)(hk:kindOf st=kd){g:Nat}(m:Mh blt (a.toList++b.toList) out.toList.reverse (a.toList.take na) (b.toList.take nb))(a0:0<na)(ha:na<=a.size)(b0:1<nb)(hb:nb<=b.size)(hy:le blt (ix a (na-1)) (ix b (nb-1)))(hN:N<=out.size):wpS (model prog w) A E s (zkg a b out na nb mg k bc) (LpH blt a b N st) (zb1 st g):=by
 obtain⟨n1,rfl⟩:∃n1,nb=n1+1:=⟨nb-1,by omega⟩
 unfold zkg;refine z6z (ql (by omega) ?_);have m2:=zoe C T m (by omega) ha fun _=>hy;simp only[z97]at *;by_cases f1:n1=1
 · rw[z64 (by simpa using f1)];exact z66 ⟨g,rfl,.inr ⟨_,_,rfl,z10 T (by omega) m2 f1⟩⟩
 · rw[z7a (by simpa using f1)];refine z6z (ql (by omega) ?_);refine z6z (zj2 (st:=zb1 st g) (x:=ix a (na-1)) (i:=0) (n:=n1) (hint:=n1-1) C hk (T.ua _ (yp (by omega))) T.ub T.sb (by omega) (by omega) fun t q1 q2 q3=>?_);simp only[z99]at q2 q3;dsimp only;by_cases f2:n1-t>0
   · rw[z64 f2];have m3:=zut C T m2 (k:=t) q1 ha (by omega) q3;by_cases f3:t=1
     · rw[z64 (by simpa using f3)];exact z66 ⟨g,rfl,.inr ⟨_,_,rfl,z10 T (by omega) m3 f3⟩⟩
     · rw[z7a (by simpa using f3)];by_cases f4:t=0
       · rw[z64 (by simpa using f4)];exact z66 ⟨g,rfl,.inr ⟨_,_,rfl,z0o m3 (.inl f4)⟩⟩
       · rw[z7a (by simpa using f4)];exact zez C T m3 a0 ha (by omega) (by omega) (q2 (t-1) (by omega)) (by rw[qa3,z7t];omega)
   · rw[z7a f2];exact zez C T m2 a0 ha (by omega) (by omega) (q2 (n1-1) (by omega)) (by rw[z7t];omega)
theorem zg7(C:Cmp prog w A E s kd U blt)(T:TwoH blt U a b)(hk:kindOf st=kd){g:Nat}(m:Ah blt a b out na nb)(hN:N<=out.size):wpS (model prog w) A E s (zr7 a b out na nb mg ac bc) (LpH blt a b N st) (zb1 st g):=by
 have p1:=m.ha;have p2:=m.hb;have p3:=m.a0;have p4:=m.b0;unfold zr7;refine z6z (zfo ?_);refine z6z (ql (by omega) ?_);refine z6z (zj3 (st:=zb1 st mg) (y:=ix b (nb-1)) (i:=0) (n:=na) (hint:=na-1) C hk (T.ub _ (yp (by omega))) T.ua T.sa (by omega) (by omega) fun t q1 q2 q3=>?_);simp only[z99]at q2 q3;dsimp only;by_cases f2:na-t>0
 · rw[z64 f2];have m3:=zuu C T m.mg (k:=t) q1 p1 p2 q3;by_cases f3:t=0
   · rw[z64 (by simpa using f3)];exact z66 ⟨mg,rfl,.inr ⟨_,_,rfl,z0o m3 (.inr f3)⟩⟩
   · rw[z7a (by simpa using f3)];exact ze0 (st:=st) C T hk m3 (by omega) (by omega) p4 p2 (q2 (t-1) (by omega)) (by rw[qa3];omega)
 · rw[z7a f2];exact ze0 (st:=st) C T hk m.mg p3 p1 p4 p2 (q2 (na-1) (by omega)) hN
theorem zil(C:Cmp prog w A E s kd U blt)(T:TwoH blt U a b)(hk:kindOf st=kd)(a0:0<a.size)(b0:0<b.size)(hl:blt (ix b (b.size-1)) (ix a (a.size-1))=true){Q:Array Keyed->SortSt->Prop}
   (h:∀r g,y4 blt a b r->Q r (zb1 st g)):wpS (model prog w) A E s (zf4 a b) Q st:=by
 rw[zi5];dsimp only;refine z6z (zbe ?_);refine z6z (ql (by omega) ?_);have m0:Mh blt (a.toList++b.toList) (#[]:Array Keyed).toList.reverse (a.toList.take (a.size-1+1)) (b.toList.take b.size):=by rw[show a.size-1+1=a.size by omega,z7x (by simp),z7x (by simp)];exact⟨by simpa using zft T.sa,by simpa using zft T.sb,by simp⟩
 have m1:=ziy C T m0 (by omega) (z6l _) fun _=>hl;have eg:st=zb1 st (gallopOf st):=rfl;have h':∀r,y4 blt a b r->Q r st:=fun r hr=>by have:=h r (gallopOf st) hr;rw[<-eg]at this;exact this
 by_cases e1:a.size-1=0
 · rw[z64 (by simpa using e1)];exact z66 (h' _ (z0o m1 (.inr e1)))
 · rw[z7a (by simpa using e1)];by_cases e2:b.size=1
   · rw[z64 (by simpa using e2)];exact z66 (h' _ (z10 T b0 m1 e2))
   · rw[z7a (by simpa using e2)];refine z6z (qbd ?_);refine z6z (z8k (z8b
       (I:=fun x c st'=>∃g out na nb mg,st'=zb1 st g/\c=(none,na,nb,out,mg)/\Ah blt a b out na nb/\x+1<=out.size)
       (Q:=fun c st'=>∃g r,st'=zb1 st g/\c.1=some r/\y4 blt a b r) ?_ ?_ ⟨gallopOf st,#[ix a (a.size-1)],a.size-1,b.size,gallopOf st,rfl,rfl,⟨by omega,by omega,by omega,z6l _,m1⟩,z6l _⟩) ?_)
     · rintro x c st' _ hx ⟨g,out,na,nb,mg,rfl,rfl,at0,sz⟩;dsimp only;refine z6z (z8k (z8b
         (I:=fun x1 c1 st1=>∃out1 na1 nb1 ac bc,st1=zb1 st g/\c1=(none,na1,nb1,out1,ac,bc)/\Ah blt a b out1 na1 nb1/\out.size+x1<=out1.size)
         (Q:=fun c1 st1=>st1=zb1 st g/\((∃out1 na1 nb1 ac bc,c1=(none,na1,nb1,out1,ac,bc)/\Ah blt a b out1 na1 nb1/\out.size+1<=out1.size)\/∃r q,c1=(some r,q)/\y4 blt a b r)) ?_ ?_ ⟨out,na,nb,0,0,rfl,rfl,at0,z6l _⟩) ?_)
       · rintro x1 c1 st1 _ hx1 ⟨out1,na1,nb1,ac,bc,rfl,rfl,at1,sz1⟩;have p1:=at1.ha;have p2:=at1.hb;have p3:=at1.a0;have p4:=at1.b0;have mm:=at1.mg;obtain⟨n1,rfl⟩:∃n1,na1=n1+1:=⟨na1-1,by omega⟩
         obtain⟨n2,rfl⟩:∃n2,nb1=n2+1:=⟨nb1-1,by omega⟩
         simp only[z97];refine z6z (ql (by omega) ?_);refine z6z (ql (by omega) ?_);refine z6z (C.lt _ _ (T.ub _ (yp (by omega))) (T.ua _ (yp (by omega))) _ _ hk ?_);dsimp only;cases hw:blt (ix b n2) (ix a n1)
         · simp only[z7c,z8d];refine z6z (ql (by omega) ?_);have m2:=zoe C T mm (by omega) p1 fun _=>by rw[z97];exact hw
           by_cases f1:n2=1
           · rw[z64 (by simpa using f1)];exact z66 ⟨rfl,.inr ⟨_,_,rfl,z10 T (by omega) m2 f1⟩⟩
           · rw[z7a (by simpa using f1)];have at2:Ah blt a b (out1.push (ix b n2)) (n1+1) n2:=⟨by omega,p1,by omega,by omega,m2⟩
             split
             · exact z66 ⟨rfl,.inl ⟨_,_,_,_,_,rfl,at2,by rw[z7t];omega⟩⟩
             · exact z66 ⟨_,_,_,_,_,rfl,rfl,at2,by rw[z7t];omega⟩
         · simp only[z8f];refine z6z (ql (by omega) ?_);have m2:=ziy C T mm (by omega) p2 fun _=>by rw[z97];exact hw
           by_cases f1:n1=0
           · rw[z64 (by simpa using f1)];exact z66 ⟨rfl,.inr ⟨_,_,rfl,z0o m2 (.inr f1)⟩⟩
           · rw[z7a (by simpa using f1)];have at2:Ah blt a b (out1.push (ix a n1)) n1 (n2+1):=⟨by omega,by omega,by omega,p2,m2⟩
             split
             · exact z66 ⟨rfl,.inl ⟨_,_,_,_,_,rfl,at2,by rw[z7t];omega⟩⟩
             · exact z66 ⟨_,_,_,_,_,rfl,rfl,at2,by rw[z7t];omega⟩
       · rintro c1 st1 ⟨out1,na1,nb1,ac,bc,rfl,rfl,at1,sz1⟩;exact⟨rfl,.inl ⟨_,_,_,_,_,rfl,at1,by omega⟩⟩
       · rintro c1 st1 ⟨rfl,⟨out1,na1,nb1,ac,bc,rfl,at1,sz1⟩ | ⟨r,q,rfl,gr⟩⟩
         · dsimp only;refine z6z (zbe ?_);refine z6z (z8k (z8b
             (I:=fun x2 c2 st2=>∃g2 out2 na2 nb2 mg2 ac2 bc2,st2=zb1 st g2/\c2=(none,na2,nb2,out2,mg2,ac2,bc2)/\Ah blt a b out2 na2 nb2/\out.size+1<=out2.size)
             (Q:=fun c2 st2=>∃g2,st2=zb1 st g2/\((∃out2 na2 nb2 mg2 ac2 bc2,c2=(none,na2,nb2,out2,mg2,ac2,bc2)/\Ah blt a b out2 na2 nb2/\out.size+1<=out2.size)\/∃r q,c2=(some r,q)/\y4 blt a b r)) ?_ ?_ ⟨g,out1,na1,nb1,mg+1,ac,bc,rfl,rfl,at1,sz1⟩) ?_)
           · rintro x2 c2 st2 _ hx2 ⟨g2,out2,na2,nb2,mg2,ac2,bc2,rfl,rfl,at2,sz2⟩;dsimp only;show wpS _ _ _ _ (if mg2>1 then zr7 a b out2 na2 nb2 (mg2-1) ac2 bc2 else zr7 a b out2 na2 nb2 mg2 ac2 bc2) _ _;by_cases f0:mg2>1
             · rw[z64 f0];refine z8k (zg7 (st:=st) (N:=out.size+1) C T hk at2 sz2) fun r st2 hr=>?_;rcases hr with⟨g3,rfl,⟨o,i1,i2,mm,c1,c2,e | e,q1,q2⟩ | ⟨v,q,rfl,gv⟩⟩
               · subst e;exact⟨g3,rfl,.inl ⟨o,i1,i2,mm,c1,c2,rfl,q1,q2⟩⟩
               · subst e;exact⟨g3,o,i1,i2,mm,c1,c2,rfl,rfl,q1,q2⟩
               · exact⟨g3,rfl,.inr ⟨v,q,rfl,gv⟩⟩
             · rw[z7a f0];refine z8k (zg7 (st:=st) (N:=out.size+1) C T hk at2 sz2) fun r st2 hr=>?_;rcases hr with⟨g3,rfl,⟨o,i1,i2,mm,c1,c2,e | e,q1,q2⟩ | ⟨v,q,rfl,gv⟩⟩
               · subst e;exact⟨g3,rfl,.inl ⟨o,i1,i2,mm,c1,c2,rfl,q1,q2⟩⟩
               · subst e;exact⟨g3,o,i1,i2,mm,c1,c2,rfl,rfl,q1,q2⟩
               · exact⟨g3,rfl,.inr ⟨v,q,rfl,gv⟩⟩
           · rintro c2 st2 ⟨g2,out2,na2,nb2,mg2,ac2,bc2,rfl,rfl,at2,sz2⟩;exact⟨g2,rfl,.inl ⟨_,_,_,_,_,_,rfl,at2,sz2⟩⟩
           · rintro c2 st2 ⟨g2,rfl,⟨out2,na2,nb2,mg2,ac2,bc2,rfl,at2,sz2⟩ | ⟨r,q,rfl,gr⟩⟩
             · dsimp only;refine z6z (zfo ?_);exact z66 ⟨mg2+1,out2,na2,nb2,mg2+1,rfl,rfl,at2,by omega⟩
             · dsimp only;exact z66 ⟨g2,r,rfl,rfl,gr⟩
         · dsimp only;exact z66 ⟨g,r,rfl,rfl,gr⟩
     · rintro c st' ⟨g,out,na,nb,mg,rfl,rfl,at0,sz⟩;have:=at0.le;omega
     · rintro c st' ⟨g,r,rfl,e,gr⟩;rw[e];exact z66 (h r g gr)
end
theorem zi6(i:Nat):mergeAt' i=(do
 let s <-get
 let(some (sa,na,power),some (sb,nb,_)):=((pendingOf s)[i]?,(pendingOf s)[i+1]?) | unsupported "internal:list.sort.pending"
 set (SortSt.mk' (kindOf s) (arrOf s) (((pendingOf s).setIfInBounds i (sa,na+nb,power)).eraseIdxIfInBounds (i+1)) (gallopOf s) (failedOf s))
 let some k <-xi false (<-elem' (arrOf s) sb) (arrOf s) sa na 0 | return false
 let(sa,na):=(sa+k,na-k)
 if na==0 then return true
 let some nb <-xi true (<-elem' (arrOf s) (sa+na-1)) (arrOf s) sb nb (nb-1) | return false
 if nb==0 then return true
 let x:=(arrOf s).extract sa sb
 let y:=(arrOf s).extract sb (sb+nb)
 let merged <-if na<=nb then zf3 x y else zf4 x y
 modify fun s=>setArr s (merged.toList.zipIdx.foldl (fun a (p,j)=>a.setIfInBounds (sa+j) p) (arrOf s))
 return(failedOf (<-get)).isNone):=rfl
theorem zkj(base:Nat):∀(l:List Keyed) (j:Nat) (arr:Array Keyed),base+j+l.length<=arr.size->((l.zipIdx j).foldl (fun a (p:Keyed×Nat)=>a.setIfInBounds (base+p.2) p.1) arr).toList=arr.toList.take (base+j)++(l++arr.toList.drop (base+j+l.length))
 | [],j,arr,_=>by simp
 | p::l,j,arr,h=>by
   rw[List.length_cons]at h;rw[List.zipIdx_cons,List.foldl_cons,zkj base l (j+1) _ (by rw[qbx];omega)];rw[qbh];have hl:base+j<arr.toList.length:=by rw[Array.length_toList];omega
   rw[show base+(j+1)=base+j+1 by omega,List.take_add_one,z7w hl,List.take_set_of_le (z6l _),List.drop_set_of_lt (by omega)];simp only[Option.toList_some,z61,List.singleton_append,List.length_cons];rw[show base+j+1+l.length=base+j+(l.length+1) by omega];rfl
section
variable {blt:Keyed->Keyed->Bool}{pre X Y post:List Keyed}{arr:Array Keyed}{j:Nat}
theorem ix_list(h:arr.toList=pre++(X++post))(hj:j<X.length):ix arr (pre.length+j)=X[j]:=by unfold ix;rw[<-z7u,h,z6y (by omega),z8u,z7d hj,z6s hj];rfl
theorem zp8{l:Nat}(h:arr.toList=pre++(X++post))(hj:j<=l)(hl:l<=X.length):(arr.extract (pre.length+j) (pre.length+l)).toList=(X.drop j).take (l-j):=by rw[z8w,List.extract_eq_drop_take,h,<-qa4,qbs,show pre.length+l-(pre.length+j)=l-j by omega,z8l (by omega),z8m (by rw[z7f];omega)]
theorem zob{a:Array Keyed}(irr:∀x,blt x x=false)(h:a.toList.Pairwise (le blt)):zq3 blt a:=by
 intro i j hij hj;rcases z8p i j with q | q
 · rw[z82]at h;have e:∀{i} (h:i<a.toList.length),a.toList[i]=ix a i:=fun {i} h=>by rw[Array.length_toList]at h;unfold ix;rw[z7m h];simp
   have:=h i j (by rw[Array.length_toList];omega) (by rw[Array.length_toList];omega) q;rw[e,e]at this;exact this
 · rw[show i=j by omega];exact irr _
end
section
variable {prog:Program}{w:World}{A:Around}{E:zVP}{s:Shared}{blt:Keyed->Keyed->Bool}{U:Keyed->Prop}{kd:SortKind}{st:SortSt}{a b:Array Keyed}{pre X Y post:List Keyed}
theorem Cmp.irr(C:Cmp prog w A E s kd U blt)(x:Keyed):blt x x=false:=by
 cases q:blt x x
 · rfl
 · have:=C.asy _ _ q;rw[q]at this;exact this
theorem znb(C:Cmp prog w A E s kd U blt)(hk:kindOf st=kd){y:Keyed}{i n hint:Nat}(uy:U y)(ua:∀x∈a.toList,U x)(sa:∀j l,j<=l->l<n->le blt (ix a (i+j)) (ix a (i+l)))(hn:i+n<=a.size)(hh:hint<n){Q:Option Nat->SortSt->Prop}
   (h:∀k,k<=n->(∀j,j<k->le blt (ix a (i+j)) y)->(∀j,k<=j->j<n->blt y (ix a (i+j))=true)->Q (some k) st):wpS (model prog w) A E s (xi false y a i n hint) Q st:=by
 rw[zbj];refine zae (P:=fun j=>!(blt y (ix a (i+j)))) (fun j hj Q hq=>?_) (fun j l hjl hl hp=>?_) hh fun k k1 k2 k3=>h k k1 (fun j hj=>by have:=k2 j hj;unfold le;simpa using this) (fun j h1 h2=>by have:=k3 j h1 h2;simpa using this)
 · unfold byd;refine z6z (ql (by omega) ?_);simp only[z7c,z8d];exact z6z (C.lt _ _ uy (ua _ (yp (by omega))) _ _ hk (z66 hq))
 · have e:blt y (ix a (i+l))=false:=by simpa using hp
   have:=C.tr _ _ _ (sa j l hjl hl) e;simp[this]
theorem zna(C:Cmp prog w A E s kd U blt)(hk:kindOf st=kd){x:Keyed}{i n hint:Nat}(ux:U x)(ub:∀x∈b.toList,U x)(sb:∀j l,j<=l->l<n->le blt (ix b (i+j)) (ix b (i+l)))(hn:i+n<=b.size)(hh:hint<n){Q:Option Nat->SortSt->Prop}
   (h:∀k,k<=n->(∀j,j<k->blt (ix b (i+j)) x=true)->(∀j,k<=j->j<n->le blt x (ix b (i+j)))->Q (some k) st):wpS (model prog w) A E s (xi true x b i n hint) Q st:=by
 rw[zbj];refine zae (P:=fun j=>blt (ix b (i+j)) x) (fun j hj Q hq=>?_) (fun j l hjl hl hp=>?_) hh h
 · unfold byd;refine z6z (ql (by omega) ?_);simp only[z8f];exact C.lt _ _ (ub _ (yp (by omega))) ux _ _ hk hq
 · cases q:blt (ix b (i+j)) x
   · have:=C.tr x (ix b (i+j)) (ix b (i+l)) q (sb j l hjl hl);rw[this]at hp;cases hp
   · rfl
theorem zyk(irr:∀x,blt x x=false)(sx:X.Pairwise (le blt)){j l:Nat}(hl:l<X.length)(hj:j<=l):le blt (X[j]'(z8c hj hl)) X[l]:=by
 rcases z8p j l with q | q
 · exact(z82.mp sx) j l _ hl q
 · cases z9s hj q;exact irr _
theorem zim(C:Cmp prog w A E s kd U blt){i:Nat}{P:Array (Nat×Nat×Nat)}{p1 p2:Nat}(hk:kindOf st=kd)(hfl:failedOf st=none)(hp:pendingOf st=P)(h1:P[i]? = some (pre.length,X.length,p1))(h2:P[i+1]? = some (pre.length+X.length,Y.length,p2))
   (ha:(arrOf st).toList=pre++(X++(Y++post))) (ua:∀x∈(arrOf st).toList,U x) (sx:X.Pairwise (le blt)) (sy:Y.Pairwise (le blt)) (x0:0<X.length) (y0:0<Y.length) {Q:Bool->SortSt->Prop}
   (h:∀(Z:List Keyed) (a':Array Keyed) (g:Nat),a'.toList=pre++(Z++post)->Z.Pairwise (le blt)->Z.Perm (X++Y)->Q true (SortSt.mk' kd a' ((P.setIfInBounds i (pre.length,X.length+Y.length,p1)).eraseIdxIfInBounds (i+1)) g none)):wpS (model prog w) A E s (mergeAt' i) Q st:=by
 have irr:=C.irr;have haX:(arrOf st).toList=pre++(X++(Y++post)):=ha;have haY:(arrOf st).toList=(pre++X)++(Y++post):=by rw[z61];exact ha
 have lpx:(pre++X).length=pre.length+X.length:=z6k;have asz:(arrOf st).size=pre.length+(X.length+(Y.length+post.length)):=by rw[<-Array.length_toList,ha];simp only[z6k]
 have ixX:∀{j},(hj:j<X.length)->ix (arrOf st) (pre.length+j)=X[j]:=fun {j} hj=>ix_list haX hj;have ixY:∀{j},(hj:j<Y.length)->ix (arrOf st) (pre.length+X.length+j)=Y[j]:=fun {j} hj=>by rw[<-lpx];exact ix_list haY hj
 have pX:∀{j l} (hl:l<X.length) (hj:j<=l),le blt (X[j]'(z8c hj hl)) X[l]:=fun hl hj=>zyk irr sx hl hj;have pY:∀{j l} (hl:l<Y.length) (hj:j<=l),le blt (Y[j]'(z8c hj hl)) Y[l]:=fun hl hj=>zyk irr sy hl hj;have uX:∀x∈X,U x:=fun x hx=>ua x (by rw[ha];simp[hx]);have uY:∀x∈Y,U x:=fun x hx=>ua x (by rw[ha];simp[hx]);rw[zi6];refine z6z (qbd ?_);rw[hp,h1,h2];dsimp only;refine z6z (z93 (f:=fun _=>_) ?_);refine z6z (ql (by omega) ?_);have e0:=ixY (j:=0) y0;rw[Nat.add_zero]at e0;rw[e0];refine z6z (znb (a:=arrOf st) (st:=SortSt.mk' (kindOf st) (arrOf st) ((P.setIfInBounds i (pre.length,X.length+Y.length,p1)).eraseIdxIfInBounds (i+1)) (gallopOf st) (failedOf st)) (y:=Y[0]) (i:=pre.length) (n:=X.length) (hint:=0) C hk (uY _ (z87 _)) ua (fun j l hj hl=>by rw[ixX (z8c hj hl),ixX hl];exact pX hl hj) (by omega) x0 fun k k1 k2 k3=>?_);dsimp only;rw[hk,hfl];by_cases f1:X.length-k=0
 · rw[z64 (by simpa using f1)];refine z66 (h (X++Y) (arrOf st) (gallopOf st) (by rw[ha];simp) ?_ (z94 _));refine z6t.mpr ⟨sx,sy,fun x hx y hy=>?_⟩;obtain⟨j,hj,rfl⟩:=z7i hx;obtain⟨l,hl,rfl⟩:=z7i hy;have:=k2 j (z6p hj (Nat.le_of_sub_eq_zero f1));rw[ixX hj]at this;exact C.tr _ _ _ this (pY hl (z7k _))
 · rw[z7a (by simpa using f1)];have k4:k<X.length:=Nat.lt_of_sub_ne_zero f1;have xe:X.length-1<X.length:=Nat.sub_lt x0 Nat.one_pos;have ye:Y.length-1<Y.length:=Nat.sub_lt y0 Nat.one_pos;rw[show pre.length+k+(X.length-k)-1=pre.length+(X.length-1) by rw[z9b,qam k1,Nat.add_sub_assoc x0]];refine z6z (ql (by rw[asz];exact z9h (z6p xe (z63 ..)) _) ?_);rw[ixX (j:=X.length-1) xe];refine z6z (zna (b:=arrOf st) (st:=SortSt.mk' kd (arrOf st) ((P.setIfInBounds i (pre.length,X.length+Y.length,p1)).eraseIdxIfInBounds (i+1)) (gallopOf st) none) (x:=X[X.length-1]) (i:=pre.length+X.length) (n:=Y.length) (hint:=Y.length-1) C rfl (uX _ (z87 _)) ua (fun j l hj hl=>by rw[ixY (z8c hj hl),ixY hl];exact pY hl hj) (by omega) ye fun t t1 t2 t3=>?_);dsimp only;by_cases f2:t=0
   · rw[z64 (by simpa using f2)];refine z66 (h (X++Y) (arrOf st) (gallopOf st) (by rw[ha];simp) ?_ (z94 _));refine z6t.mpr ⟨sx,sy,fun x hx y hy=>?_⟩;obtain⟨j,hj,rfl⟩:=z7i hx;obtain⟨l,hl,rfl⟩:=z7i hy;have:=t3 l (f2▸z7k _) hl;rw[ixY hl]at this;exact C.tr _ _ _ (pX xe (Nat.le_sub_one_of_lt hj)) this
   · rw[z7a (by simpa using f2)];have t0:0<t:=Nat.pos_of_ne_zero f2;clear f1 f2;have ex:((arrOf st).extract (pre.length+k) (pre.length+X.length)).toList=X.drop k:=by rw[zp8 haX k1 (z6l _),z7x (by rw[z7f];exact z6l _)]
     have ey:((arrOf st).extract (pre.length+X.length) (pre.length+X.length+t)).toList=Y.take t:=by have:=zp8 (j:=0) (l:=t) haY (z7k _) t1;rw[lpx,Nat.add_zero,z9n,Nat.sub_zero]at this;exact this
     generalize hx:(arrOf st).extract (pre.length+k) (pre.length+X.length)=x at ex;generalize hy:(arrOf st).extract (pre.length+X.length) (pre.length+X.length+t)=y at ey;have xs:x.size=X.length-k:=by rw[<-Array.length_toList,ex,z7f]
     have ys:y.size=t:=by rw[<-Array.length_toList,ey,z7e,z9t t1]
     have ixx:∀{j},(hj:k+j<X.length)->ix x j=X[k+j]:=fun {j} hj=>by unfold ix;rw[<-z7u,ex,qbn,z6s hj];rfl
     have ixy:∀{j},(hj:j<t)->ix y j=Y[j]'(z6p hj t1):=fun {j} hj=>by unfold ix;rw[<-z7u,ey,qbo,z64 hj,z6s (z6p hj t1)];rfl
     have sX:zq3 blt x:=zob irr (by rw[ex];exact qaa (List.drop_sublist _ _) sx);have sY:zq3 blt y:=zob irr (by rw[ey];exact qaa (qa0 _ _) sy);have uxx:∀z∈x.toList,U z:=fun z hz=>uX z (z8x (ex▸hz));have uyy:∀z∈y.toList,U z:=fun z hz=>uY z (z7l (ey▸hz));have hf:blt (ix y 0) (ix x 0)=true:=by have:=k3 k (z6l _) k4;rw[ixX k4]at this;rw[ixy t0,ixx (j:=0) k4];simpa using this
     have hl:∀j,j<t->blt (ix y j) (ix x (x.size-1))=true:=fun j hj=>by
       have:=t2 j hj;rw[ixY (z6p hj t1)]at this;have e:ix x (x.size-1)=X[X.length-1]:=by
         have q:k+(x.size-1)=X.length-1:=by rw[xs,<-Nat.add_sub_assoc (qby k4),qam k1]
         rw[ixx (j:=x.size-1) (q▸xe)];congr 1
       rw[ixy hj,e];exact this
     have eL:pre.length+k+(X.length-k+t)=pre.length+(X.length+t):=by rw[<-z9b,z9b pre.length,qam k1,z9b]
     have fin:∀(r:Array Keyed) (g:Nat),y4 blt x y r->wpS (model prog w) A E s (do
         modify fun s=>setArr s (r.toList.zipIdx.foldl (fun a (p,j)=>a.setIfInBounds (pre.length+k+j) p) (arrOf s))
         return(failedOf (<-get)).isNone) Q (SortSt.mk' kd (arrOf st) ((P.setIfInBounds i (pre.length,X.length+Y.length,p1)).eraseIdxIfInBounds (i+1)) g none):=by
       intro r g gr;have rl:r.toList.length=X.length-k+t:=by rw[gr.2.length_eq,ex,ey,z6k,z7f,z7e,z9t t1]
       refine z6z (z93 ?_);refine z6z (qbd ?_);have pl:=zkj (pre.length+k) r.toList 0 (arrOf st) (by rw[rl,Nat.add_zero,asz,eL];exact qbe (qbe (z67 t1 (z63 ..)) _) _);rw[Nat.add_zero]at pl;refine z66 (h (X.take k++(r.toList++Y.drop t)) _ g (Eq.trans pl ?_) ?_ ?_)
       · rw[rl,ha];have e1:(pre++(X++(Y++post))).take (pre.length+k)=pre++X.take k:=by rw[List.take_append,z7x (z63 ..),z8u,z8m k1]
         have e2:(pre++(X++(Y++post))).drop (pre.length+k+(X.length-k+t))=Y.drop t++post:=by rw[eL,<-qa4,qbs,<-qa4,qbs,z8l t1]
         rw[e1,e2];simp only[z61]
       · have inr:∀z∈r.toList,z∈X.drop k\/z∈Y.take t:=fun z hz=>by have:=gr.2.mem_iff.mp hz;rw[ex,ey]at this;exact z62.mp this
         refine z6t.mpr ⟨qaa (qa0 _ _) sx,z6t.mpr ⟨gr.1,qaa (List.drop_sublist _ _) sy,fun z hz v hv=>?_⟩,fun z hz v hv=>?_⟩
         · obtain⟨l,hl',rfl⟩:=z7i hv;rw[z7f]at hl';rw[z9d];rcases inr z hz with q | q
           · obtain⟨j,hj,rfl⟩:=z7i q;rw[z7f]at hj;rw[z9d];have hl2:=qab hl';have:=t3 (t+l) (z63 ..) hl2;rw[ixY hl2]at this;exact C.tr _ _ _ (pX xe (Nat.le_sub_one_of_lt (qab hj))) this
           · obtain⟨j,hj,rfl⟩:=z7i q;rw[z7e]at hj;rw[z9c];exact pY (qab hl') (z67 (z8h (z6p hj (qb7 ..))) (z63 ..))
         · obtain⟨j,hj,rfl⟩:=z7i hz;rw[z7e]at hj;rw[z9c];have jk:=z6p hj (qb7 ..);have a1:=k2 j jk;rw[ixX (z6p jk k1)]at a1;have inY:∀v∈Y,le blt X[j] v:=fun v hv=>by obtain⟨l,hl',rfl⟩:=z7i hv;exact C.tr _ _ _ a1 (pY hl' (z7k _))
           rcases z62.mp hv with hv | hv
           · rcases inr v hv with q | q
             · obtain⟨l,hl',rfl⟩:=z7i q;rw[z7f]at hl';rw[z9d];exact pX (qab hl') (z67 (z8h jk) (z63 ..))
             · exact inY v (z7l q)
           · exact inY v (z8x hv)
       · have g2:=gr.2;rw[ex,ey]at g2;refine List.Perm.trans (z9l _ (z9j _ g2)) ?_;rw[z61,z76,<-z61,z76]
     have xp:0<x.size:=by rw[xs];exact qby k4
     by_cases f3:X.length-k<=t
     · rw[z64 f3];refine z6z (zik (st:=SortSt.mk' kd (arrOf st) ((P.setIfInBounds i (pre.length,X.length+Y.length,p1)).eraseIdxIfInBounds (i+1)) (gallopOf st) none) C ⟨sX,sY,uxx,uyy,fun z hz=>?_⟩ rfl xp (by rw[ys];exact t0) hf fun r g gr=>fin r g gr);obtain⟨j,hj,j2,rfl⟩:=zbg (i:=0) (by rw[z9n];exact hz);exact C.asy _ _ (hl j (ys▸j2))
     · rw[z7a f3];refine z6z (zil (st:=SortSt.mk' kd (arrOf st) ((P.setIfInBounds i (pre.length,X.length+Y.length,p1)).eraseIdxIfInBounds (i+1)) (gallopOf st) none) C ⟨sX,sY,uxx,uyy,fun z hz=>?_⟩ rfl xp (by rw[ys];exact t0) (by rw[ys];exact hl (t-1) (Nat.sub_lt t0 Nat.one_pos)) fun r g gr=>fin r g gr);obtain⟨j,hj,j2,rfl⟩:=zbg (i:=0) (by rw[z9n];exact hz);exact C.tr _ _ _ (C.asy _ _ hf) (sX 0 j hj j2)
end
section
variable {prog:Program}{w:World}{A:Around}{E:zVP}{s:Shared}{blt:Keyed->Keyed->Bool}{U:Keyed->Prop}{kd:SortKind}{st:SortSt}{arr:Array Keyed}
def Asc(blt:Keyed->Keyed->Bool)(a:Array Keyed)(lo hi:Nat):Prop:=∀i j,lo<=i->i<j->j<hi->blt (ix a i) (ix a j)=true
def Des(blt:Keyed->Keyed->Bool)(a:Array Keyed)(lo hi:Nat):Prop:=∀i j,lo<=i->i<j->j<hi->blt (ix a j) (ix a i)=true
def Dis(blt:Keyed->Keyed->Bool)(a:Array Keyed):Prop:=∀i j,i≠j->i<a.size->j<a.size->blt (ix a i) (ix a j)=false->blt (ix a j) (ix a i)=true
theorem Cmp.ltr(C:Cmp prog w A E s kd U blt){x y z:Keyed}(h1:blt x y=true)(h2:blt y z=true):blt x z=true:=by
 cases q:blt x z
 · have:=C.tr y z x (C.asy _ _ h2) q;rw[this]at h1;cases h1
 · rfl
theorem zaw(C:Cmp prog w A E s kd U blt)(hk:kindOf st=kd)(ua:∀x∈(arrOf st).toList,U x){i j:Nat}(hi:i<(arrOf st).size)(hj:j<(arrOf st).size){Q:Option Bool->SortSt->Prop}(h:Q (some (blt (ix (arrOf st) i) (ix (arrOf st) j))) st):wpS (model prog w) A E s (ltAt' i j) Q st:=by rw[ltAt'_eq];refine z6z (qbd ?_);refine z6z (ql hi (z6z (ql hj ?_)));exact C.lt _ _ (ua _ (yp hi)) (ua _ (yp hj)) _ _ hk h
theorem Asc.snoc(C:Cmp prog w A E s kd U blt){a:Array Keyed}{lo n:Nat}(h:Asc blt a lo (lo+n))(n1:1<=n)(hl:blt (ix a (lo+n-1)) (ix a (lo+n))=true):Asc blt a lo (lo+(n+1)):=fun i j hi hij hj=>by
 rcases z8p j (lo+n)with q | q
 · exact h i j hi hij q
 · have:j=lo+n:=by omega
   subst this;rcases z8p i (lo+n-1)with q2 | q2
   · exact C.ltr (h i (lo+n-1) hi q2 (by omega)) hl
   · have:i=lo+n-1:=by omega
     subst this;exact hl
theorem Des.snoc(C:Cmp prog w A E s kd U blt){a:Array Keyed}{lo n:Nat}(h:Des blt a lo (lo+n))(n1:1<=n)(hl:blt (ix a (lo+n)) (ix a (lo+n-1))=true):Des blt a lo (lo+(n+1)):=fun i j hi hij hj=>by
 rcases z8p j (lo+n)with q | q
 · exact h i j hi hij q
 · have:j=lo+n:=by omega
   subst this;rcases z8p i (lo+n-1)with q2 | q2
   · exact C.ltr hl (h i (lo+n-1) hi q2 (by omega))
   · have:i=lo+n-1:=by omega
     subst this;exact hl
theorem zdy{a:Array Keyed}{i j:Nat}(hj:j<=a.size)(k:Nat):ix (mirror a i j ((j-i)/2)) k=if i<=k/\k<j then ix a (i+j-1-k)else ix a k:=by have e:=getElem?_mirror_all (i:=i) hj k;unfold ix;rw[e];split<;>rfl
theorem zdz{a:Array Keyed}{src d:Nat}(hs:src<a.size)(hd:d<=src)(k:Nat):ix (bubble a src d) k=if k=src-d then ix a src else if src-d<k/\k<=src then ix a (k-1)else ix a k:=by
 have e:=getElem?_bubble hs d hd k;unfold ix;rw[e];split
 · rfl
 · split<;>rfl
structure Sam (lo:Nat) (a a':Array Keyed):Prop where
 pm:a'.toList.Perm a.toList
 ne:∀i,i<lo->ix a' i=ix a i
theorem Sam.size{lo:Nat}{a a':Array Keyed}(h:Sam lo a a'):a'.size=a.size:=by have:=h.pm.length_eq;rw[Array.length_toList,Array.length_toList]at this;exact this
theorem Sam.refl(lo:Nat)(a:Array Keyed):Sam lo a a:=⟨z94 _,fun _ _=>rfl⟩
theorem Sam.trans{lo:Nat}{a b c:Array Keyed}(h:Sam lo a b)(h':Sam lo b c):Sam lo a c:=⟨h'.pm.trans h.pm,fun i hi=>(h'.ne i hi).trans (h.ne i hi)⟩
theorem zlx{lo:Nat}{a:Array Keyed}{j:Nat}(hj:j<=a.size):Sam lo a (mirror a lo j ((j-lo)/2)) :=
 ⟨(mirror_perm a lo j ((j-lo)/2)).toList,fun i hi=>by rw[zdy hj,z7a (by omega)]⟩
theorem zly{lo:Nat}{a:Array Keyed}{src d:Nat}(hs:src<a.size)(hd:d<=src)(hl:lo<=src-d):Sam lo a (bubble a src d) :=
 ⟨(bubble_perm a src d).toList,fun i hi=>by rw[zdz hs hd,z7a (by omega),z7a (by omega)]⟩
theorem Asc.mir{a:Array Keyed}{lo n:Nat}(h:Des blt a lo (lo+n))(hn:lo+n<=a.size):Asc blt (mirror a lo (lo+n) ((lo+n-lo)/2)) lo (lo+n):=fun i j hi hij hj=>by rw[zdy hn,zdy hn,z64 ⟨hi,Nat.lt_trans hij hj⟩,z64 ⟨z67 hi (z8h hij),hj⟩];clear hn;exact h _ _ (by omega) (by omega) (by omega)
theorem Dis.of{lo:Nat}{a a':Array Keyed}(d:a.toList.Pairwise fun x y=>blt x y=true\/blt y x=true)(h:Sam lo a a'):a'.toList.Pairwise fun x y=>blt x y=true\/blt y x=true :=
 (h.pm.pairwise_iff (fun {x y} q=>q.symm)).mpr d
theorem zlh{a:Array Keyed}(d:a.toList.Pairwise fun x y=>blt x y=true\/blt y x=true):Dis blt a:=by
 have e:∀{i} (h:i<a.toList.length),a.toList[i]=ix a i:=fun {i} h=>by rw[Array.length_toList]at h;unfold ix;rw[z7m h];simp
 intro i j hij hi hj hf;rw[z82]at d;rcases z8p i j with q | q
 · have:=d i j (by rw[Array.length_toList];exact hi) (by rw[Array.length_toList];exact hj) q;rw[e,e]at this;rcases this with z | z
   · rw[z]at hf;cases hf
   · exact z
 · have:=d j i (by rw[Array.length_toList];exact hj) (by rw[Array.length_toList];exact hi) (by omega);rw[e,e]at this;rcases this with z | z
   · exact z
   · rw[z]at hf;cases hf
theorem znc(C:Cmp prog w A E s kd U blt)(hk:kindOf st=kd)(ua:∀x∈(arrOf st).toList,U x)(hd:Dis blt (arrOf st)){lo n0 nrem:Nat}(hs:lo+nrem=(arrOf st).size)(n1:1<=n0)(n2:n0<=nrem)(h0:Asc blt (arrOf st) lo (lo+n0)){Q:Option (Option Nat)×Nat->SortSt->Prop}
   (h:∀n,n0<=n->n<=nrem->Asc blt (arrOf st) lo (lo+n)->(n=nrem\/blt (ix (arrOf st) (lo+n)) (ix (arrOf st) (lo+n-1))=true)->Q (none,n) st) :
   wpS (model prog w) A E s (forIn [n0:nrem] ((none,n0):Option (Option Nat)×Nat) fun _ __s=>do
     let __x <-ltAt' (lo+__s.snd) (lo+__s.snd-1)
     match __x with
     |some smaller=>if smaller=true then pure (ForInStep.done (none,__s.snd))else pure (ForInStep.yield (none,__s.snd+1))
     |_=>pure (ForInStep.done (some none,__s.snd))) Q st:=by
 refine z8b (I:=fun x c st'=>st'=st/\c=(none,x)/\Asc blt (arrOf st) lo (lo+x)) ?_ ?_ ⟨rfl,rfl,h0⟩
 · rintro x c st' hx1 hx ⟨rfl,rfl,ac⟩;dsimp only;refine z6z (zaw C hk ua (by omega) (by omega) ?_);dsimp only;cases q:blt (ix (arrOf st') (lo+x)) (ix (arrOf st') (lo+x-1))
   · simp only[z7c,z8d];exact z66 ⟨rfl,rfl,ac.snoc C (by omega) (hd _ _ (by omega) (by omega) (by omega) q)⟩
   · simp only[z8f];exact z66 (h x hx1 (by omega) ac (.inr q))
 · rintro c st' ⟨rfl,rfl,ac⟩;rw[qa8 n2]at ac ⊢;exact h nrem n2 (z6l _) ac (.inl rfl)
theorem zfp(C:Cmp prog w A E s kd U blt)(hk:kindOf st=kd)(ua:∀x∈(arrOf st).toList,U x)(hd:(arrOf st).toList.Pairwise fun x y=>blt x y=true\/blt y x=true){lo nrem:Nat}(hs:lo+nrem=(arrOf st).size)(n0:1<=nrem){Q:Option Nat->SortSt->Prop}
   (h:∀n a',1<=n->n<=nrem->Sam lo (arrOf st) a'->Asc blt a' lo (lo+n)->Q (some n) (setArr st a')):wpS (model prog w) A E s (countRun' lo nrem) Q st:=by
 have es:st=setArr st (arrOf st):=rfl;rw[countRun'_eq];refine z6z (z8k (znc (n0:=1) C hk ua (zlh hd) hs (z6l _) n0 (fun i j a b c=>by omega) (Q:=fun c st'=>st'=st/\∃n,c=(none,n)/\1<=n/\n<=nrem/\Asc blt (arrOf st) lo (lo+n)/\(n=nrem\/blt (ix (arrOf st) (lo+n)) (ix (arrOf st) (lo+n-1))=true)) fun n a1 a2 a3 a4=>⟨rfl,n,rfl,a1,a2,a3,a4⟩) ?_);rintro c st' ⟨rfl,n,rfl,a1,a2,a3,a4⟩;dsimp only;by_cases e1:n=nrem
 · rw[z64 (by simpa using e1)];have:=h n (arrOf st') a1 a2 (Sam.refl _ _) a3;rw[<-es]at this;exact z66 this
 · rw[z7a (by simpa using e1)];have a4:=a4.resolve_left e1;by_cases e2:n>1
   · rw[z64 e2];refine z6z (zaw C hk ua (by omega) (by omega) ?_);dsimp only;rw[a3 lo (lo+n-1) (z6l _) (by omega) (by omega)];simp only[z8f];have:=h n (arrOf st') a1 a2 (Sam.refl _ _) a3;rw[<-es]at this;exact z66 this
   · rw[z7a e2];have:n=1:=by omega
     subst this;refine z6z (zbe ?_);refine z6z (z8k (z8b (I:=fun x c st2=>st2=st'/\c=(none,x,0)/\Des blt (arrOf st') lo (lo+x)) (Q:=fun c st2=>st2=st'/\∃n,c=(none,n,0)/\2<=n/\n<=nrem/\Des blt (arrOf st') lo (lo+n)) ?_ ?_ ⟨rfl,rfl,fun i j p1 p2 p3=>?_⟩) ?_)
     · rintro x c st2 hx1 hx ⟨rfl,rfl,de⟩;dsimp only;refine z6z (zaw C hk ua (by omega) (by omega) ?_);dsimp only;cases q:blt (ix (arrOf st2) (lo+x)) (ix (arrOf st2) (lo+x-1))
       · simp only[z7c,z8d];refine z6z (zaw C hk ua (by omega) (by omega) ?_);dsimp only;rw[zlh hd _ _ (by omega) (by omega) (by omega) q];simp only[z8f];exact z66 ⟨rfl,x,rfl,by omega,by omega,de⟩
       · simp only[z8f];rw[z7a (by decide)];exact z66 ⟨rfl,rfl,de.snoc C (by omega) q⟩
     · rintro c st2 ⟨rfl,rfl,de⟩;have e:1+1<=nrem:=by omega
       rw[qa8 e]at de ⊢;exact⟨rfl,nrem,rfl,e,z6l _,de⟩
     · have:i=lo:=by omega
       subst this;have:j=i+1:=by omega
       subst this;simpa using a4
     · rintro c st2 ⟨rfl,n,rfl,n2,n3,de⟩;dsimp only;rw[z7a (by decide)];rw[reverseSlice'_eq];refine z6z (z93 ?_);have sm:=zlx (lo:=lo) (a:=arrOf st2) (j:=lo+n) (by omega);have am:=Asc.mir de (by omega);generalize hm:mirror (arrOf st2) lo (lo+n) ((lo+n-lo)/2)=a2 at sm am;have z2:=sm.size;refine z6z (z8k (znc (st:=setArr st2 a2) (n0:=n) C hk (fun x hx=>ua x (sm.pm.mem_iff.mp hx)) (zlh (Dis.of hd sm)) (by show lo+nrem=a2.size;omega) (by omega) n3 am (Q:=fun c st'=>st'=setArr st2 a2/\∃m,c=(none,m)/\n<=m/\m<=nrem/\Asc blt a2 lo (lo+m)) fun m b1 b2 b3 b4=>⟨rfl,m,rfl,b1,b2,b3⟩) ?_);rintro c st3 ⟨rfl,m,rfl,b1,b2,b3⟩;exact z66 (h m a2 (by omega) b2 sm b3)
theorem zdf(C:Cmp prog w A E s kd U blt)(hk:kindOf st=kd)(ua:∀x∈(arrOf st).toList,U x)(hd:(arrOf st).toList.Pairwise fun x y=>blt x y=true\/blt y x=true){lo n ok:Nat}(hs:lo+n<=(arrOf st).size)(o1:1<=ok)(o2:ok<=n)(h0:Asc blt (arrOf st) lo (lo+ok)){Q:Bool->SortSt->Prop}
   (h:∀a',Sam lo (arrOf st) a'->Asc blt a' lo (lo+n)->Q true (setArr st a')):wpS (model prog w) A E s (binarySort' lo n ok) Q st:=by
 rw[binarySort'_eq];rw[Nat.max_eq_left o1];refine z6z (z8k (z8b (I:=fun x c st2=>c.1=none/\∃a',st2=setArr st a'/\Sam lo (arrOf st) a'/\Asc blt a' lo (lo+x)) (Q:=fun c st2=>c.1=none/\∃a',st2=setArr st a'/\Sam lo (arrOf st) a'/\Asc blt a' lo (lo+n)) ?_ ?_ ⟨rfl,arrOf st,rfl,Sam.refl _ _,h0⟩) ?_)
 · rintro x c st2 hx1 hx ⟨hc,a',rfl,sm,ac⟩;have za:=sm.size;have ua':∀y∈(arrOf (setArr st a')).toList,U y:=fun y hy=>ua y (sm.pm.mem_iff.mp hy);have di:Dis blt a':=zlh (Dis.of hd sm);dsimp only;refine z6z (z8k (z8b (I:=fun y c st3=>st3=setArr st a'/\∃l r,c=(none,l,r)/\l<=r/\r<=x/\(∀i,i<l->blt (ix a' (lo+i)) (ix a' (lo+x))=true)/\(∀i,r<=i->i<x->blt (ix a' (lo+x)) (ix a' (lo+i))=true)/\r+y<=x+l)
     (Q:=fun c st3=>st3=setArr st a'/\∃l,c=(none,l,l)/\l<=x/\(∀i,i<l->blt (ix a' (lo+i)) (ix a' (lo+x))=true)/\(∀i,l<=i->i<x->blt (ix a' (lo+x)) (ix a' (lo+i))=true)) ?_ ?_ ⟨rfl,0,x,rfl,z7k _,z6l _,fun i hi=>absurd hi (z9u _),fun i h1 h2=>absurd h2 (z92.mpr h1),z6l _⟩) ?_)
   · rintro y c st3 _ hy ⟨rfl,l,r,rfl,g1,g2,g3,g4,g5⟩;dsimp only;by_cases e:l ≥ r
     · rw[z64 e];cases z9s g1 e;exact z66 ⟨rfl,l,rfl,g2,g3,g4⟩
     · rw[z7a e];have m1:l<=(l+r)/2:=by omega
       have m2:(l+r)/2<r:=by omega
       clear e g1 hy hx1 h0 o1 o2;generalize (l+r)/2=m at m1 m2 ⊢;have mx:=z6p m2 g2;have xz:lo+x<a'.size:=by omega
       have mz:lo+m<a'.size:=by omega
       clear hs hx za;refine z6z (zaw (st:=setArr st a') C hk ua' xz mz ?_);dsimp only;show wpS _ _ _ _ (if blt (ix a' (lo+x)) (ix a' (lo+m))=true then _ else _) _ _;cases q:blt (ix a' (lo+x)) (ix a' (lo+m))
       · simp only[z7c,z8d];have q':=di _ _ (by omega) xz mz q;clear xz mz;refine z66 ⟨rfl,m+1,r,rfl,m2,g2,fun i hi=>?_,g4,by omega⟩;rcases z8p i m with z | z
         · exact C.ltr (ac (lo+i) (lo+m) (z63 ..) (z9h z _) (z9h mx _)) q'
         · rw[z9s (qa2 hi) z];exact q'
       · simp only[z8f];clear xz mz;refine z66 ⟨rfl,l,m,rfl,m1,z8h mx,g3,fun i h1 h2=>?_,by omega⟩;rcases z8p m i with z | z
         · exact C.ltr q (ac (lo+m) (lo+i) (z63 ..) (z9h z _) (z9h h2 _))
         · rw[z9s z h1];exact q
   · rintro c st3 ⟨rfl,l,r,rfl,g1,g2,g3,g4,g5⟩;have:l=r:=by omega
     subst this;exact⟨rfl,l,rfl,g2,g3,g4⟩
   · rintro c st3 ⟨rfl,l,rfl,g2,g3,g4⟩;dsimp only;rw[moveDown'_eq];refine z6z (z93 ?_);have hb1:lo+x<a'.size:=by omega
     have hb2:lo+x-(lo+x-(lo+l))=lo+l:=Nat.sub_sub_self (qbe g2 _);refine z66 ⟨rfl,bubble a' (lo+x) (lo+x-(lo+l)),rfl,sm.trans (zly hb1 (qcc ..) (by rw[hb2];exact z63 ..)),fun i j hi hij hj=>?_⟩;rw[zdz hb1 (qcc ..),zdz hb1 (qcc ..),hb2];clear hb1 hb2 hs hx hx1 o1 o2 za h0;by_cases i1:i=lo+l
     · rw[z64 i1,z7a (by omega),z64 (by omega)];subst i1;obtain⟨c,rfl⟩:=Nat.exists_eq_add_of_lt hij;have:=g4 (l+c) (z63 ..) (by omega);rw[<-z9b]at this;exact this
     · rw[z7a i1];by_cases j1:j=lo+l
       · rw[z64 j1,z7a (by omega)];obtain⟨c,rfl⟩:=Nat.exists_eq_add_of_le hi;exact g3 c (by omega)
       · rw[z7a j1];by_cases i2:lo+l<i/\i<=lo+x
         · rw[z64 i2,z64 (by omega)];exact ac _ _ (by omega) (by omega) (by omega)
         · rw[z7a i2];by_cases j2:lo+l<j/\j<=lo+x
           · rw[z64 j2];exact ac _ _ (by omega) (by omega) (by omega)
           · rw[z7a j2];exact ac _ _ (by omega) (by omega) (by omega)
 · rintro c st2 ⟨hc,a',rfl,sm,ac⟩;rw[qa8 o2]at ac;exact⟨hc,a',rfl,sm,ac⟩
 · rintro c st2 ⟨hc,a',rfl,sm,ac⟩;dsimp only;rw[hc];exact z66 (h a' sm ac)
end
def Pm:List (Nat×Nat×Nat)->List (List Keyed)->Nat->Prop
 | [],[],_=>True
 | (s,n,_)::p,r::rs,f=>s=f/\n=r.length/\Pm p rs (f+r.length)
 |_,_,_=>False
theorem Pm.len:∀{p:List (Nat×Nat×Nat)}{rs:List (List Keyed)}{f:Nat},Pm p rs f->p.length=rs.length
 | [],[],_,_=>rfl
 | (s,n,q)::p,r::rs,f,h=>by rw[List.length_cons,List.length_cons,Pm.len h.2.2]
 | [],_::_,_,h=>h.elim
 |_::_,[],_,h=>h.elim
theorem Pm.app:∀{p p':List (Nat×Nat×Nat)}{rs rs':List (List Keyed)}{f:Nat},Pm p rs f->Pm p' rs' (f+rs.flatten.length)->Pm (p++p') (rs++rs') f
 | [],p',[],rs',f,_,h=>by simpa using h
 | (s,n,q)::p,p',r::rs,rs',f,h,h'=>⟨h.1,h.2.1,Pm.app h.2.2 (by rw[List.flatten_cons,z6k]at h';rw[z9b];exact h')⟩
 | [],_,_::_,_,_,h,_=>h.elim
 |_::_,_,[],_,_,h,_=>h.elim
theorem Pm.split:∀{p:List (Nat×Nat×Nat)}{rs:List (List Keyed)}{f i:Nat},Pm p rs f->i+1<p.length->∃Q1 Q2 R1 R2 X Y p1 p2,p=Q1++(f+R1.flatten.length,X.length,p1)::(f+R1.flatten.length+X.length,Y.length,p2)::Q2/\rs=R1++X::Y::R2/\Q1.length=i/\Pm Q1 R1 f/\Pm Q2 R2 (f+R1.flatten.length+X.length+Y.length)
 | (s,n,q)::(s',n',q')::p,r::r'::rs,f,0,h,_=>by obtain⟨rfl,rfl,rfl,rfl,h3⟩:=h;exact⟨[],p,[],rs,r,r',q,q',by simp,rfl,rfl,trivial,by simpa using h3⟩
 | (s,n,q)::p,r::rs,f,i+1,h,hl=>by
   obtain⟨rfl,rfl,h3⟩:=h;obtain⟨Q1,Q2,R1,R2,X,Y,p1,p2,e1,e2,e3,e4,e5⟩:=Pm.split (i:=i) h3 (by simpa using hl);refine⟨(s,r.length,q)::Q1,Q2,r::R1,R2,X,Y,p1,p2,?_,by rw[e2];rfl,by simp[e3],⟨rfl,rfl,e4⟩,?_⟩
   · rw[e1,List.flatten_cons,z6k,<-z9b];rfl
   · rw[List.flatten_cons,z6k,<-z9b];exact e5
 | [],_,_,_,_,hl=>by simp at hl
 | [_],_,_,0,_,hl=>by simp at hl
 |_::_::_,[_],_,0,h,_=>by obtain⟨_,_,h⟩:=h;exact h.elim
 |_::_::_,[],_,0,h,_=>h.elim
 |_::_,[],_,_+1,h,_=>h.elim
theorem Pm.pow(pw:Nat):∀{p:List (Nat×Nat×Nat)}{rs:List (List Keyed)}{f k:Nat},Pm p rs f->Pm (p.modify k fun x=>(x.1,x.2.1,pw)) rs f
 | [],[],_,_,_=>by simp[Pm]
 | (s,n,q)::p,r::rs,f,0,h=>h
 | (s,n,q)::p,r::rs,f,k+1,h=>⟨h.1,h.2.1,Pm.pow pw h.2.2⟩
 | [],_::_,_,_,h=>h.elim
 |_::_,[],_,_,h=>h.elim
section
variable {prog:Program}{w:World}{A:Around}{E:zVP}{s:Shared}{blt:Keyed->Keyed->Bool}{U:Keyed->Prop}{kd:SortKind}{st:SortSt}{T:List Keyed}
structure RI (blt:Keyed->Keyed->Bool) (kd:SortKind) (T:List Keyed) (st:SortSt) (lo:Nat) (rest:List Keyed):Prop where
 k:kindOf st=kd
 f:failedOf st=none
 pm:(arrOf st).toList.Perm T
 ex:∃rs:List (List Keyed),(arrOf st).toList=rs.flatten++rest/\Pm (pendingOf st).toList rs 0/\lo=rs.flatten.length/\∀r∈rs,r.Pairwise (le blt)/\0<r.length
theorem zcl(C:Cmp prog w A E s kd U blt)(uT:∀x∈T,U x){lo i:Nat}{rest:List Keyed}(R:RI blt kd T st lo rest)(hi:i+1<(pendingOf st).size):wpS (model prog w) A E s (mergeAt' i) (fun b st'=>b=true/\RI blt kd T st' lo rest/\(pendingOf st').size+1=(pendingOf st).size) st:=by
 obtain⟨rs,ea,ep,el,er⟩:=R.ex;obtain⟨Q1,Q2,R1,R2,X,Y,p1,p2,e1,e2,e3,e4,e5⟩:=ep.split (i:=i) (by rw[Array.length_toList];exact hi);rw[z99]at e1 e5;have gX:=er X (by rw[e2];simp);have gY:=er Y (by rw[e2];simp);have a1:(pendingOf st)[i]? = some (R1.flatten.length,X.length,p1):=by rw[<-z7u,e1,<-e3,z6y (z6l _),z9v];rfl
 have a2:(pendingOf st)[i+1]? = some (R1.flatten.length+X.length,Y.length,p2):=by rw[<-z7u,e1,<-e3,z6y (by omega),z8u];rfl
 refine zim (pre:=R1.flatten) (X:=X) (Y:=Y) (post:=R2.flatten++rest) C R.k R.f rfl a1 a2 (by rw[ea,e2];simp[z61]) (fun x hx=>uT x (R.pm.mem_iff.mp hx)) gX.1 gY.1 gX.2 gY.2 fun Z a' g ez pz mz=>?_;have pl:(((pendingOf st).setIfInBounds i (R1.flatten.length,X.length+Y.length,p1)).eraseIdxIfInBounds (i+1)).toList=Q1++(R1.flatten.length,X.length+Y.length,p1)::Q2:=by
   have l1:i+1<((pendingOf st).setIfInBounds i (R1.flatten.length,X.length+Y.length,p1)).size:=by rw[qbx];exact hi
   rw[Array.eraseIdxIfInBounds,dif_pos l1,Array.toList_eraseIdx,qbh,e1,<-e3];rw[qa6 _ _ (z6l _),z9v,List.set_cons_zero,List.eraseIdx_append_of_length_le (by omega),z8u];rfl
 have zl:Z.length=X.length+Y.length:=by rw[mz.length_eq,z6k]
 refine⟨rfl,⟨rfl,rfl,?_,R1++Z::R2,?_,?_,?_,fun r hr=>?_⟩,?_⟩
 · refine List.Perm.trans ?_ R.pm;show a'.toList.Perm _;rw[ez,ea,e2];simp only[qan,List.flatten_cons,z61];refine z9l _ ?_;rw[<-z61 X];exact z9j _ mz
 · show a'.toList=_;rw[ez];simp[z61]
 · show Pm (((pendingOf st).setIfInBounds i (R1.flatten.length,X.length+Y.length,p1)).eraseIdxIfInBounds (i+1)).toList _ 0;rw[pl];exact Pm.app e4 ⟨by rw[z99],zl.symm,by rw[z99,zl,<-z9b];exact e5⟩
 · rw[el,e2];simp only[qan,List.flatten_cons,z6k,zl];omega
 · rcases z62.mp hr with q | q
   · exact er r (by rw[e2];exact z7y _ q)
   · rcases z6n.mp q with rfl | q
     · exact⟨pz,by omega⟩
     · exact er r (by rw[e2];simp[q])
 · show(((pendingOf st).setIfInBounds i (R1.flatten.length,X.length+Y.length,p1)).eraseIdxIfInBounds (i+1)).size+1=_;rw[<-Array.length_toList,pl,<-Array.length_toList,e1];simp only[z6k,List.length_cons];omega
end
section
variable {prog:Program}{w:World}{A:Around}{E:zVP}{s:Shared}{blt:Keyed->Keyed->Bool}{U:Keyed->Prop}{kd:SortKind}{st:SortSt}{T:List Keyed}
theorem zul(C:Cmp prog w A E s kd U blt){a:Array Keyed}{lo n:Nat}(h:Asc blt a lo (lo+n))(hn:lo+n<=a.size):((a.toList.drop lo).take n).Pairwise (le blt):=by
 have e:∀{i} (h:i<a.toList.length),a.toList[i]=ix a i:=fun {i} h=>by rw[Array.length_toList]at h;unfold ix;rw[z7m h];simp
 rw[z82];intro i j hi hj hij;rw[z7e,z7f,Array.length_toList]at hi hj;rw[z9c,z9c,z9d,z9d,e,e];exact C.asy _ _ (h _ _ (by omega) (by omega) (by omega))
theorem zlt{a a':Array Keyed}{lo:Nat}(h:Sam lo a a')(hl:lo<=a.size):a'.toList.take lo=a.toList.take lo:=by
 have hs:=h.size;apply List.ext_getElem?;intro i;rw[qbo,qbo];split
 · rename_i hi;rw[z7u,z7u,zk1 (by omega),zk1 (by omega),h.ne i hi]
 · rfl
theorem RI.sam{lo:Nat}{rest:List Keyed}{a':Array Keyed}(R:RI blt kd T st lo rest)(h:Sam lo (arrOf st) a'):RI blt kd T (setArr st a') lo (a'.toList.drop lo):=by
 obtain⟨rs,ea,ep,el,er⟩:=R.ex;have hl:lo<=(arrOf st).size:=by rw[<-Array.length_toList,ea,z6k,el];omega
 refine⟨R.k,R.f,h.pm.trans R.pm,rs,?_,ep,el,er⟩;have e1:a'.toList.take lo=rs.flatten:=by rw[zlt h hl,ea,el,qbt]
 show a'.toList=_;rw[<-e1,z76]
theorem RI.push{lo n:Nat}{a':Array Keyed}(R:RI blt kd T st lo ((arrOf st).toList.drop lo))(hs:lo+n<=(arrOf st).size)(n0:0<n)(hp:(((arrOf st).toList.drop lo).take n).Pairwise (le blt)):RI blt kd T (setPending st ((pendingOf st).push (lo,n,0))) (lo+n) ((arrOf st).toList.drop (lo+n)):=by
 obtain⟨rs,ea,ep,el,er⟩:=R.ex;have ln:(((arrOf st).toList.drop lo).take n).length=n:=by rw[z7e,z7f,Array.length_toList];omega
 refine⟨R.k,R.f,R.pm,rs++[((arrOf st).toList.drop lo).take n],?_,?_,?_,fun r hr=>?_⟩
 · show(arrOf st).toList=_;rw[qan,qaz,z61,<-qa4,z76];exact ea
 · show Pm ((pendingOf st).push (lo,n,0)).toList _ 0;rw[qah];exact Pm.app ep ⟨by rw[z99];exact el,ln.symm,trivial⟩
 · rw[qan,qaz,z6k,ln,<-el]
 · rcases z62.mp hr with q | q
   · exact er r q
   · rw[z6q.mp q];exact⟨hp,by omega⟩
theorem RI.pow{lo k pw:Nat}{rest:List Keyed}(R:RI blt kd T st lo rest):RI blt kd T (setPending st ((pendingOf st).modify k fun(x:Nat×Nat×Nat)=>(x.1,x.2.1,pw))) lo rest:=by obtain⟨rs,ea,ep,el,er⟩:=R.ex;refine⟨R.k,R.f,R.pm,rs,ea,?_,el,er⟩;show Pm ((pendingOf st).modify k _).toList rs 0;rw[Array.toList_modify];exact Pm.pow pw ep
theorem RI.small{lo:Nat}{rest:List Keyed}(R:RI blt kd T st lo rest):(pendingOf st).size<=lo:=by
 obtain⟨rs,ea,ep,el,er⟩:=R.ex;rw[<-Array.length_toList,ep.len,el];clear ea ep el
 induction rs with
 |nil=>simp
 | cons r rs ih=>
   have:=ih fun x hx=>er x (z6r _ hx);have:=(er r (z6w ..)).2;rw[List.length_cons,List.flatten_cons,z6k];omega
theorem RI.fin(R:RI blt kd T st T.length [])(hp:(pendingOf st).size<=1):(arrOf st).toList.Pairwise (le blt):=by
 obtain⟨rs,ea,ep,el,er⟩:=R.ex;rw[<-Array.length_toList,ep.len]at hp;rw[ea,z7h]
 match rs,hp,er with
 | [],_,_=>exact List.Pairwise.nil
 | [r],_,er=>rw[qaz];exact(er r (z6w ..)).1
theorem RI.rest{lo:Nat}{rest:List Keyed}(R:RI blt kd T st lo rest):(arrOf st).toList.drop lo=rest:=by obtain⟨rs,ea,ep,el,er⟩:=R.ex;rw[ea,el,qbs]
theorem zj5{n:Nat}(h:1<n):n-2+1<n:=by omega
theorem zfn(C:Cmp prog w A E s kd U blt)(hk:kindOf st=kd)(hf:failedOf st=none)(hp:pendingOf st=#[])(uT:∀x∈(arrOf st).toList,U x)(hd:(arrOf st).toList.Pairwise fun x y=>blt x y=true\/blt y x=true){Q:Unit->SortSt->Prop}
   (h:∀st',(arrOf st').toList.Perm (arrOf st).toList->failedOf st'=none->(arrOf st').toList.Pairwise (le blt)->Q () st'):wpS (model prog w) A E s sortRuns' Q st:=by
 have tl:(arrOf st).toList.length=(arrOf st).size:=Array.length_toList;rw[sortRuns'_eq];refine z6z (qbd ?_);dsimp only;generalize hT:(arrOf st).toList=T at *;generalize hz:(arrOf st).size=sz at *;generalize minRun' sz sz 0=mr;have R0:RI blt kd T st 0 ((arrOf st).toList.drop 0):=⟨hk,hf,by rw[hT],[],by rw[z9n];rfl,by rw[hp];trivial,rfl,fun r hr=>by cases hr⟩
 refine z6z (z8k (z8b
   (I:=fun x c st'=>∃lo,c=(none,lo)/\lo<=sz/\(x<=lo\/lo=sz)/\RI blt kd T st' lo ((arrOf st').toList.drop lo))
   (Q:=fun c st'=>c=(none,sz)/\RI blt kd T st' sz ((arrOf st').toList.drop sz)) ?step ?fin ⟨0,rfl,z7k _,.inl (z6l _),R0⟩) ?post)
 case fin=>
   rintro c st' ⟨lo,rfl,l1,l2,R⟩;have:lo=sz:=by omega
   subst this;exact⟨rfl,R⟩
 case step=>
   rintro x c st' _ hx ⟨lo,rfl,l1,l2,R⟩;dsimp only;by_cases e0:lo ≥ sz
   · rw[z64 e0];cases z9s l1 e0;exact z66 ⟨rfl,R⟩
   · rw[z7a e0];have xl:x<=lo:=l2.resolve_right fun q=>e0 (q▸z6l _);clear hx l2;have zs:(arrOf st').size=sz:=by rw[<-tl,<-Array.length_toList];exact R.pm.length_eq
     have u':∀x∈(arrOf st').toList,U x:=fun x hx=>uT x (R.pm.mem_iff.mp hx);have d':(arrOf st').toList.Pairwise fun x y=>blt x y=true\/blt y x=true:=(R.pm.pairwise_iff (fun {x y} q=>q.symm)).mpr hd;refine z6z (zfp C R.k u' d' (nrem:=sz-lo) (by rw[zs];exact qam l1) (qby (Nat.lt_of_not_le e0)) fun n a1 n1 n2 sm ac=>?_);dsimp only;have za:=sm.size;have R1:=R.sam sm;by_cases e1:n<mr
     · rw[z64 e1];refine z6z (zbe ?_);have m0:0<min (sz-lo) mr:=Nat.le_min.mpr ⟨z67 n1 n2,z67 n1 (z8h e1)⟩;have m1:lo+min (sz-lo) mr<=sz:=Nat.add_le_of_le_sub' l1 (qb7 ..);refine z6z (zdf (st:=setArr st' a1) (n:=min (sz-lo) mr) (ok:=n) C R.k (fun x hx=>u' x (sm.pm.mem_iff.mp hx)) (Dis.of d' sm) (by show lo+min (sz-lo) mr<=a1.size;rw[za,zs];exact m1) n1 (Nat.le_min.mpr ⟨n2,z8h e1⟩) ac fun a2 s2 c2=>?_);simp only[z9y,z7c,z8d];have RR:=R.sam (sm.trans s2);have hp:=zul C c2 (show lo+min (sz-lo) mr<=a2.size from by rw[(sm.trans s2).size,zs];exact m1);have last:∀{st2:SortSt},RI blt kd T st2 lo (a2.toList.drop lo)->RI blt kd T (setPending st2 ((pendingOf st2).push (lo,min (sz-lo) mr,0))) (lo+min (sz-lo) mr) ((arrOf (setPending st2 ((pendingOf st2).push (lo,min (sz-lo) mr,0)))).toList.drop (lo+min (sz-lo) mr)):=fun {st2} R2=>by
         have e:=R2.rest;have z2:(arrOf st2).size=sz:=by rw[<-tl,<-Array.length_toList];exact R2.pm.length_eq
         have R3:RI blt kd T st2 lo ((arrOf st2).toList.drop lo):=by rw[e];exact R2
         exact R3.push (a':=#[]) (by rw[z2];exact m1) m0 (by rw[e];exact hp)
       refine z6z (qbd ?_);split
       · rename_i s1 n1 q heq;refine z6z (z8k (z8b (I:=fun x c st2=>c.1=none/\RI blt kd T st2 lo (a2.toList.drop lo)) (Q:=fun c st2=>c.1=none/\RI blt kd T st2 lo (a2.toList.drop lo)) ?_ (fun c st2 hh=>hh) ⟨rfl,RR⟩) ?_)
         · rintro x c st2 _ _ ⟨_,R2⟩;refine z6z (qbd ?_);by_cases g:(pendingOf st2).size>1
           · rw[z64 g];have gi:(pendingOf st2).size-2<(pendingOf st2).size:=Nat.lt_of_succ_lt (zj5 g);rw[z7m gi];dsimp only;split
             · exact z66 ⟨rfl,R2⟩
             · refine z6z (z8k (zcl C uT R2 (zj5 g)) fun b st3 hb=>?_);obtain⟨rfl,R3,_⟩:=hb;simp only[z9y,z7c,z8d];exact z66 ⟨rfl,R3⟩
           · rw[z7a g];exact z66 ⟨rfl,R2⟩
         · rintro c st2 ⟨hc,R2⟩;rw[hc];dsimp only;refine z6z (z93 ?_);refine z6z (z93 ?_);exact z66 ⟨_,rfl,m1,.inl (qbu xl m0),last (st2:=setPending st2 ((pendingOf st2).modify ((pendingOf st2).size-1) fun x=>(x.fst,x.2.fst,power' sz (2*s1+n1) (2*s1+n1+n1+min (sz-lo) mr) sz))) R2.pow⟩
       · refine z6z (z93 ?_);exact z66 ⟨_,rfl,m1,.inl (qbu xl m0),last RR⟩
     · rw[z7a e1];have m0:0<n:=n1;have m1:lo+n<=sz:=Nat.add_le_of_le_sub' l1 n2;have RR:=R.sam sm;have hp:=zul C ac (show lo+n<=a1.size from by rw[za,zs];exact m1);have last:∀{st2:SortSt},RI blt kd T st2 lo (a1.toList.drop lo)->RI blt kd T (setPending st2 ((pendingOf st2).push (lo,n,0))) (lo+n) ((arrOf (setPending st2 ((pendingOf st2).push (lo,n,0)))).toList.drop (lo+n)):=fun {st2} R2=>by
         have e:=R2.rest;have z2:(arrOf st2).size=sz:=by rw[<-tl,<-Array.length_toList];exact R2.pm.length_eq
         have R3:RI blt kd T st2 lo ((arrOf st2).toList.drop lo):=by rw[e];exact R2
         exact R3.push (a':=#[]) (by rw[z2];exact m1) m0 (by rw[e];exact hp)
       refine z6z (qbd ?_);split
       · rename_i s1 n1 q heq;refine z6z (z8k (z8b (I:=fun x c st2=>c.1=none/\RI blt kd T st2 lo (a1.toList.drop lo)) (Q:=fun c st2=>c.1=none/\RI blt kd T st2 lo (a1.toList.drop lo)) ?_ (fun c st2 hh=>hh) ⟨rfl,RR⟩) ?_)
         · rintro x c st2 _ _ ⟨_,R2⟩;refine z6z (qbd ?_);by_cases g:(pendingOf st2).size>1
           · rw[z64 g];have gi:(pendingOf st2).size-2<(pendingOf st2).size:=Nat.lt_of_succ_lt (zj5 g);rw[z7m gi];dsimp only;split
             · exact z66 ⟨rfl,R2⟩
             · refine z6z (z8k (zcl C uT R2 (zj5 g)) fun b st3 hb=>?_);obtain⟨rfl,R3,_⟩:=hb;simp only[z9y,z7c,z8d];exact z66 ⟨rfl,R3⟩
           · rw[z7a g];exact z66 ⟨rfl,R2⟩
         · rintro c st2 ⟨hc,R2⟩;rw[hc];dsimp only;refine z6z (z93 ?_);refine z6z (z93 ?_);exact z66 ⟨_,rfl,m1,.inl (qbu xl m0),last (st2:=setPending st2 ((pendingOf st2).modify ((pendingOf st2).size-1) fun x=>(x.fst,x.2.fst,power' sz (2*s1+n1) (2*s1+n1+n1+n) sz))) R2.pow⟩
       · refine z6z (z93 ?_);exact z66 ⟨_,rfl,m1,.inl (qbu xl m0),last RR⟩
 case post=>
   rintro c st' ⟨rfl,R⟩;dsimp only;have e:(arrOf st').toList.drop sz=[]:=z8i (by rw[R.pm.length_eq,tl];exact z6l _);rw[e]at R;have sm:=R.small;refine z6z (z8k (z8b (I:=fun x c st2=>c.1=none/\RI blt kd T st2 sz []/\((pendingOf st2).size+x<=sz+1\/(pendingOf st2).size<=1)) (Q:=fun c st2=>c.1=none/\RI blt kd T st2 sz []/\(pendingOf st2).size<=1) ?_ ?_ ⟨rfl,R,.inl (by omega)⟩) ?_)
   · rintro x c st2 _ hx ⟨_,R2,p2⟩;refine z6z (qbd ?_);by_cases g:(pendingOf st2).size<=1
     · rw[z64 g];exact z66 ⟨rfl,R2,g⟩
     · rw[z7a g];refine z6z (z8k (zcl C uT R2 ?_) fun b st3 hb=>?_)
       · have any:∀(q:Bool),(if q=true then (pendingOf st2).size-2-1 else (pendingOf st2).size-2)+1<(pendingOf st2).size:=fun q=>by cases q<;>simp<;>omega
         exact any _
       · obtain⟨rfl,R3,z3⟩:=hb;simp only[z9y,z7c,z8d];exact z66 ⟨rfl,R3,by omega⟩
   · rintro c st2 ⟨hc,R2,p2⟩;refine⟨hc,R2,?_⟩;rcases p2 with p2 | p2
     · have:max 0 sz=sz:=by omega
       omega
     · exact p2
   · rintro c st2 ⟨hc,R2,p2⟩;have R3:RI blt kd T st2 T.length []:=by rw[tl];exact R2
     have:=h st2 R2.pm R2.f (R3.fin p2);rw[hc];exact z66 this
end
def nums(z:Str):List Int:=z.cps.toList.map Int.ofNat
theorem map_lt:∀(x y:List Nat),(x.map Int.ofNat<y.map Int.ofNat)↔x<y
 | [],[]=>by simp
 | [],_::_=>by simp
 |_::_,[]=>by simp
 | a::x,b::y=>by
   rw[z65,z65,z77,z77,map_lt x y];constructor
   · rintro(h | ⟨h,h'⟩)
     · exact .inl (qb8.mp h)
     · exact .inr ⟨Int.ofNat.inj h,h'⟩
   · rintro(h | ⟨h,h'⟩)
     · exact .inl (qb8.mpr h)
     · exact .inr ⟨z8y Int.ofNat h,h'⟩
def bk(kc:Keyed->List Int)(x y:Keyed):Bool:=decide (kc x<kc y)
section
variable {prog:Program}{w:World}{A:Around}{E:zVP}{s:Shared}{kd:SortKind}{U:Keyed->Prop}{kc:Keyed->List Int}
theorem zlj(h:∀x y,U x->U y->∀(E':zVP) (Q:Bool->Shared->Prop),Q (bk kc x y) s->wpAny (model prog w) A (keyLt' kd x.1 y.1) Q E' s):Cmp prog w A E s kd U (bk kc) where
 lt:=fun x y hx hy st Q hk hq=>by rw[lt'_eq];refine z6z (qbd ?_);rw[hk];refine z6z (wpS_lift (wpAny_attempt ?_));refine h x y hx hy _ _ ?_;exact⟨rfl,z66 hq⟩
 asy:=fun x y hx=>by simp only[bk,decide_eq_true_eq,z9z]at *;exact List.lt_asymm hx
 tr:=fun x y z h1 h2=>by simp only[bk,z9z]at *;exact z8g.mpr (List.le_trans (z8g.mp h1) (z8g.mp h2))
theorem zl9{a b:Int}{t u:Tok}{Q:Bool->Shared->Prop}(h:Q (decide (a<b)) s):wpAny (model prog w) A (oneLt' false (.int a t) (.int b u)) Q E s:=by rw[oneLt'_eq];simp only[z7c,z8d];refine z6m (wpAny_richCompare_same (op:=.Lt) (typeIs_int s a t) (typeIs_int s b u) slot_int_lt (call_int_lt ⟨by simp,?_⟩));exact z8a h
theorem zl8{a b:Str}{t u:Tok}{Q:Bool->Shared->Prop}(h:Q (decide (a.cps.toList<b.cps.toList)) s):wpAny (model prog w) A (oneLt' false (.str a t) (.str b u)) Q E s:=by rw[oneLt'_eq];simp only[z7c,z8d];refine z6m (wpAny_richCompare_same (op:=.Lt) (typeIs_str s a t) (typeIs_str s b u) slot_str_lt (call_str_lt ⟨by simp,?_⟩));exact z8a h
theorem cmp_int(hU:∀x,U x->∃n t,x.1=.int n t/\kc x=[n]):Cmp prog w A E s oneType' U (bk kc):=zlj fun x y hx hy E' Q hq=>by
 obtain⟨n,t,e,k⟩:=hU x hx;obtain⟨m,u,e',k'⟩:=hU y hy;rw[e,e',keyLt'_oneType];refine oneLt_int ?_;have:bk kc x y=decide (n<m):=by unfold bk;rw[k,k',z71,z77];simp
 rw[<-this];exact hq
theorem cmp_str(hU:∀x,U x->∃z t,x.1=.str z t/\kc x=nums z):Cmp prog w A E s oneType' U (bk kc):=zlj fun x y hx hy E' Q hq=>by
 obtain⟨n,t,e,k⟩:=hU x hx;obtain⟨m,u,e',k'⟩:=hU y hy;rw[e,e',keyLt'_oneType];refine oneLt_str ?_;have:bk kc x y=decide (n.cps.toList<m.cps.toList):=by unfold bk;rw[k,k',z71];exact map_lt _ _
 rw[<-this];exact hq
theorem zmg(fl:Bool)(x y:Value):keyLt' (tuples' fl) x y=(do
   let xs <-Builtin.List.listItems x;let ys <-Builtin.List.listItems y
   for ((p,q),i)in (xs.toList.zip ys.toList).zipIdx do
     if !(<-eqBool p q)then return <-oneLt' (fl&&i==0) p q
   return xs.size<ys.size):=rfl
theorem zfb{p q:Addr}{o o':Obj}{n n':Nat}{a b:Int}{t u:Tok}{v v':Value}{Q:Bool->Shared->Prop}(ho:s.heap.get? p=some o)(hd:o.data=.seq #[.int a t,v] n)(ho':s.heap.get? q=some o')(hd':o'.data=.seq #[.int b u,v'] n')
   {eq lt:Bool} (he:∀Q:Bool->Shared->Prop,Q eq s->wpAny (model prog w) A (eqBool v v') Q E s) (hl:∀Q:Bool->Shared->Prop,Q lt s->wpAny (model prog w) A (oneLt' false v v') Q E s) (h:Q (if a=b then !eq&&lt else decide (a<b)) s):wpAny (model prog w) A (keyLt' (tuples' true) (.ref p) (.ref q)) Q E s:=by
 rw[zmg];refine z6m (qbp ho hd ?_);refine z6m (qbp ho' hd' ?_);have e0:((#[Value.int a t,v].toList.zip #[Value.int b u,v'].toList).zipIdx)=[((Value.int a t,Value.int b u),0),((v,v'),1)]:=rfl;rw[e0,qau];simp only[bind_assoc];refine z6m (wpAny_eqBool_int ?_);by_cases ab:a=b
 · rw[z64 ab]at h;have e1:(a==b)=true:=by simpa using ab
   rw[e1];simp only[z9y,z7c,z8d,pure_bind];rw[qau];simp only[bind_assoc];refine z6m (he _ ?_);cases eq
   · simp only[qca,z8f,bind_assoc,pure_bind,Bool.true_and]at h ⊢;exact z6m (hl _ (z7g h))
   · simp only[z9y,z7c,z8d,pure_bind,List.forIn_nil,Bool.false_and]at h ⊢;exact z7g h
 · rw[z7a ab]at h;have e1:(a==b)=false:=by simpa using ab
   rw[e1];simp only[qca,z8f,bind_assoc,pure_bind];exact z6m (oneLt_int (z7g h))
theorem cmp_ii(hU:∀x,U x->∃p o n a t b u,x.1=.ref p/\s.heap.get? p=some o/\o.data=.seq #[.int a t,.int b u] n/\kc x=[a,b]):Cmp prog w A E s (tuples' true) U (bk kc):=zlj fun x y hx hy E' Q hq=>by
 obtain⟨p,o,n,a,t,b,u,e,ho,hd,k⟩:=hU x hx;obtain⟨p',o',n',a',t',b',u',e',ho',hd',k'⟩:=hU y hy;rw[e,e'];refine zfb ho hd ho' hd' (eq:=b==b') (lt:=decide (b<b')) (fun Q h=>wpAny_eqBool_int h) (fun Q h=>zl9 h) ?_;have:bk kc x y=(if a=a' then !(b==b')&&decide (b<b')else decide (a<a')):=by
   unfold bk;rw[k,k',<-Bool.decide_coe (if a=a' then _ else _),z71,z77,z77];by_cases h1:a=a'
   · rw[z64 h1];subst h1;simp;omega
   · rw[z7a h1];simp[h1]
 rw[<-this];exact hq
theorem cmp_is(hU:∀x,U x->∃p o n a t b u,x.1=.ref p/\s.heap.get? p=some o/\o.data=.seq #[.int a t,.str b u] n/\kc x=a::nums b):Cmp prog w A E s (tuples' true) U (bk kc):=zlj fun x y hx hy E' Q hq=>by
 obtain⟨p,o,n,a,t,b,u,e,ho,hd,k⟩:=hU x hx;obtain⟨p',o',n',a',t',b',u',e',ho',hd',k'⟩:=hU y hy;rw[e,e'];refine zfb ho hd ho' hd' (eq:=decide (b=b')) (lt:=decide (b.cps.toList<b'.cps.toList)) (fun Q h=>wpAny_eqBool_str h) (fun Q h=>zl8 h) ?_;have:bk kc x y=(if a=a' then !(decide (b=b'))&&decide (b.cps.toList<b'.cps.toList)else decide (a<a')):=by
   unfold bk;rw[k,k',<-Bool.decide_coe (if a=a' then _ else _),z71,z77];by_cases h1:a=a'
   · rw[z64 h1];subst h1;have:(nums b<nums b')↔b.cps.toList<b'.cps.toList:=map_lt _ _;simp[this];rintro h2 rfl;exact qaj _ h2
   · rw[z7a h1];simp[h1]
 rw[<-this];exact hq
end
end Srt
namespace Srt
open PySem PyProof.Rows
open Builtin.List (listItems listUpdate)
theorem kk1:((("key":Str) != ("key":Str))&&(("key":Str) != ("reverse":Str)))=false:=by decide +kernel
theorem kk2{v:Value}:List.lookup ("key":Str) [(("key":Str),v)]=some v:=by simp[List.lookup]
theorem kk3{v:Value}:List.lookup ("reverse":Str) [(("key":Str),v)]=none:=by
 have:(("reverse":Str)==("key":Str))=false:=by decide +kernel
 simp[List.lookup,this]
def keysLoop(a:Addr)(items:Array Value)(kf keyStore:Value):Sem PUnit :=
 forIn items PUnit.unit fun x __s=>do
   let __do_lift <-(call kf [x]).attempt
   match __do_lift with
   | Except.ok k=>do
     listUpdate keyStore fun x=>x.push k
     pure (ForInStep.yield PUnit.unit)
   | Except.error e=>do
     rule "list.sort.key-raised"
     let made <-listItems keyStore
     listUpdate keyStore fun x=>#[]
     letGo made.toList.reverse [e]
     listUpdate (Value.ref a) fun x=>items
     throw (α:=Unit) e
     pure (ForInStep.yield PUnit.unit)
theorem zf6 (a:Addr) (kf:Value) (hn:(kf != Value.none)=true):Builtin.«list.sort» ⟨[.ref a],[("key",kf)]⟩=(do
   let items <-listItems (.ref a)
   listUpdate (.ref a) fun _=>#[]
   let before <-seqEpoch a
   let held <-newTuple items.toList
   let keyStore <-newList []
   holding [held,keyStore] do
     rule "list.sort.key"
     keysLoop a items kf keyStore
     let keys <-listItems keyStore
     let kind <-if items.size<2 then pure general' else keyKind' keys
     let((),s) <-(if items.size<2 then pure ()else sortRuns').run (SortSt.mk' kind (keys.zip items) #[] 7 none)
     let sorted:=(arrOf s).map (·.2)
     listUpdate keyStore fun _=>#[]
     letGo ((arrOf s).map (·.1)).toList (failedOf s).toList
     let touched:=(<-seqEpoch a) != before
     listUpdate (.ref a) fun _=>sorted
     if let some e:=failedOf s then rule "list.sort.comparison-raised";throw e
     if touched then rule "list.sort.modified";raiseError "ValueError" "list modified during sort"
     ret .none):=by
 unfold Builtin.«list.sort»;have n2:¬ (0+(0+1)>2):=by decide
 simp only[List.length_nil,List.length_cons,List.isEmpty_nil,kk2,kk3,Option.getD_some,hn,z7a n2,qau,List.forIn_nil,kk1,pure_bind,bind_assoc,z8f,z8d,z7c,z9y];rfl
section
variable {prog:Program}{w:World}{A:Around}{E:zVP}{s:Shared}
def askHeap(h:Heap)(a:Addr)(vs:List Value):Heap:=((h.update a (Obj.mapSeq fun _=>#[])).push (seqObj "tuple" vs.toArray 0)).push (seqObj "list" #[] 0)
structure Keyd (prog:Program) (w:World) (A:Around) (E:zVP) (a k:Addr) (e1:Nat) (vs:List Value) (P:Fin->Shared->Prop) (s2:Shared):Prop where
 ex:∃(keys:List Value) (m:Nat) (kd:SortKind) (U:Keyed->Prop) (kc:Keyed->List Int),s2.heap.get? k=some (seqObj "list" keys.toArray m)/\s2.heap.get? a=some (seqObj "list" #[] e1)/\keys.length=vs.length /\
   (2<=vs.length->wpAny (model prog w) A (keyKind' keys.toArray) (fun kd' s'=>s'=s2/\kd'=kd) E s2)/\Cmp prog w A E s2 kd U (bk kc)/\(∀x∈keys.zip vs,U x)/\(keys.zip vs).Pairwise (fun x y=>kc x≠kc y) /\
   ∀out:List Keyed,out.Perm (keys.zip vs)->out.Pairwise (fun x y=>¬ kc y<kc x)->P (.done (.ret .none)) { s2 with heap:=(s2.heap.update k (Obj.mapSeq fun _=>#[])).update a (Obj.mapSeq fun _=>(out.map (·.2)).toArray) }
theorem zds{a:Addr}{vs:List Value}{n:Nat}{kf:Value}{P:Fin->Shared->Prop}(hn:(kf != Value.none)=true)(ho:s.heap.get? a=some (seqObj "list" vs.toArray n))(hl:vs.length<=100000)
   (h:∀e1,(askHeap s.heap a vs).get? a=some (seqObj "list" #[] e1)->wpAny (model prog w) A (keysLoop a vs.toArray kf (.ref (s.heap.objs.size+1))) (fun _ s2=>Keyd prog w A E a (s.heap.objs.size+1) e1 vs P s2) E { s with heap:=askHeap s.heap a vs }) :
   wpAny (model prog w) A (Builtin.«list.sort» ⟨[.ref a],[("key",kf)]⟩) P E s:=by
 rw[zf6 a kf hn];have ha:a<s.heap.objs.size:=z69 ho;refine z6m (qbp ho rfl ?_);refine z6m (listUpdate_at ho rfl ?_);obtain⟨e1,ho1⟩:∃e1,(s.heap.update a (Obj.mapSeq fun _=>#[])).get? a=some (seqObj "list" #[] e1):=⟨_,get?_update_seq ho (fun _=>#[])⟩
 refine z6m (seqEpoch_at ho1 rfl ?_);refine z6m (wpAny_newTuple ?_);refine z6m (wpAny_newList ?_);refine wpAny_holding ?_;have ho6:(askHeap s.heap a vs).get? a=some (seqObj "list" #[] e1):=by unfold askHeap;rw[Heap.get?_push_ne _ _ _ (by rw[qbz,z91];exact z7b (qag ha)),Heap.get?_push_ne _ _ _ (by rw[z91];exact z7b ha)];exact ho1
 have hk:((s.heap.update a (Obj.mapSeq fun _=>#[])).push (seqObj "tuple" vs.toArray 0)).objs.size=s.heap.objs.size+1:=by rw[qbz,z91]
 dsimp only;rw[hk];refine z6m (wpAny_rule ?_);refine z6m (z8o (h e1 ho6) (fun _ s2 hs2=>?_) fun _ _ e=>e);obtain⟨keys,m,kd,U,kc,gk,ga,lk,hkk,C,hU,hd,fin⟩:=hs2.ex;have ka:a≠s.heap.objs.size+1:=z7b (qag ha);refine z6m (qbp gk rfl ?_);have vsz:vs.toArray.size=vs.length:=by simp
 have zl:(keys.toArray.zip vs.toArray).toList=keys.zip vs:=by simp
 have sz2:(keys.zip vs).length=vs.length:=by rw[List.length_zip,lk,Nat.min_self]
 have done:∀st:SortSt,failedOf st=none->(arrOf st).toList.Perm (keys.zip vs)->(arrOf st).toList.Pairwise (fun x y=>¬ kc y<kc x)->wpAny (model prog w) A (do
     listUpdate (.ref (s.heap.objs.size+1)) fun _=>#[]
     letGo ((arrOf st).map (·.1)).toList (failedOf st).toList
     let touched:=(<-seqEpoch a) != e1
     listUpdate (.ref a) fun _=>(arrOf st).map (·.2)
     if let some e:=failedOf st then rule "list.sort.comparison-raised";throw e
     if touched then rule "list.sort.modified";raiseError "ValueError" "list modified during sort"
     ret .none) P E s2:=by
   intro st hf hp hs;refine z6m (listUpdate_at gk rfl ?_);refine z6m (wpAny_letGo ?_);have ga2:(s2.heap.update (s.heap.objs.size+1) (Obj.mapSeq fun _=>#[])).get? a=some (seqObj "list" #[] e1):=by rw[z80 _ _ _ _ ka];exact ga
   refine z6m (seqEpoch_at ga2 rfl ?_);refine z6m (listUpdate_at ga2 rfl ?_ (hsz2:=by
     show((arrOf st).map (·.2)).size<=_;rw[Array.size_map,<-Array.length_toList,hp.length_eq,sz2,z7z];omega))
   rw[hf];simp only[bne_self_eq_false,z7c,z8d];have:=fin (arrOf st).toList hp hs;have e:((arrOf st).toList.map (·.2)).toArray=(arrOf st).map (·.2):=by rw[<-Array.toList_map,Array.toArray_toList]
   rw[e]at this;exact z7g this
 by_cases h2:vs.toArray.size<2
 · rw[z64 h2,z64 h2];refine z6m (z7g ?_);rw[StateT.run_pure];refine z6m (z7g ?_);refine done (SortSt.mk' general' (keys.toArray.zip vs.toArray) #[] 7 none) rfl (by show(keys.toArray.zip vs.toArray).toList.Perm _;rw[zl]) ?_;show(keys.toArray.zip vs.toArray).toList.Pairwise _;rw[zl]
   match hz:keys.zip vs,sz2 with
   | [],_=>exact List.Pairwise.nil
   | [x],_=>exact z9a _ _
   |x::y::r,e=>rw[vsz]at h2;simp at e;omega
 · rw[z7a h2,z7a h2];refine z6m (z8o (hkk (by rw[vsz]at h2;omega)) (fun kd' s' hs'=>?_) fun _ _ e=>e);obtain⟨rfl,rfl⟩:=hs';refine z6m (z8o (zfn (st:=SortSt.mk' kd' (keys.toArray.zip vs.toArray) #[] 7 none) C rfl rfl rfl (fun x hx=>hU x (by rw[<-zl];exact hx)) ?_ (Q:=fun _ st'=>(arrOf st').toList.Perm (keys.toArray.zip vs.toArray).toList/\failedOf st'=none/\(arrOf st').toList.Pairwise (le (bk kc))) fun st' a1 a2 a3=>⟨a1,a2,a3⟩) ?_ fun _ _ e=>e)
   · show(keys.toArray.zip vs.toArray).toList.Pairwise _;rw[zl];refine hd.imp fun {x y} hxy=>?_;simp only[bk,decide_eq_true_eq];by_cases q:kc x<kc y
     · exact .inl q
     · right
       by_cases q2:kc y<kc x
       · exact q2
       · exact absurd (qa9 (z8g.mp q2) (z8g.mp q)) hxy
   · rintro⟨⟨⟩,st'⟩ s3 ⟨rfl,hp,hf,hs⟩;refine done st' hf (by rw[zl]at hp;exact hp) (hs.imp fun {x y} q=>?_);simpa [le,bk] using q
end
theorem zeo(a k:Value):argsOk "sorted" ⟨[a],[(("key":Str),k)]⟩:=by unfold argsOk;kernel_rfl
theorem zcj(a k:Value):argsOk "list.sort" ⟨[a],[(("key":Str),k)]⟩:=by unfold argsOk;kernel_rfl
section
variable {prog:Program}{w:World}{A:Around}{E:zVP}{s:Shared}
def colHeap(h:Heap)(vs:List Value):Heap:=((h.push (seqObj "list" #[] 0)).update h.objs.size (Obj.mapSeq (·++vs.toArray))).push (seqObj "list" vs.toArray 0)
theorem col_size(h:Heap)(vs:List Value):(colHeap h vs).objs.size=h.objs.size+2:=by unfold colHeap;rw[qbz,z91,qbz]
theorem sorted_key{l:Addr}{vs:List Value}{kf:Value}{Q:zVP}(hl:s.heap.IsList l vs.toArray)(hn:(kf != Value.none)=true)(hv:vs.length<=100000)
   (h:∀e1,(askHeap (colHeap s.heap vs) (s.heap.objs.size+1) vs).get? (s.heap.objs.size+1)=some (seqObj "list" #[] e1) ->
     wpAny (model prog w) A.in1.in1 (keysLoop (s.heap.objs.size+1) vs.toArray kf (.ref (s.heap.objs.size+3))) (fun _ s2=>Keyd prog w A.in1.in1 E (s.heap.objs.size+1) (s.heap.objs.size+3) e1 vs (fun fin s'=>fin=.done (.ret .none)->Q (.ref (s.heap.objs.size+1)) s') s2) E { s with heap:=askHeap (colHeap s.heap vs) (s.heap.objs.size+1) vs }) :
   wpAny (model prog w) A (call (.builtin "sorted") [.ref l] [(("key":Str),kf)]) Q E s:=by
 refine call_function_entry_kw kind_sorted plain_sorted entry_sorted (zeo _ _) ?_;unfold Builtin.«sorted»;refine z6m (m:=checkCount "sorted" 1 1 _) (z7g ?_);have hz:=z7z;refine z6m (collect_list hl ?_ (by omega));refine z6m (wpAny_newList ?_);have hsz:((s.heap.push (seqObj "list" #[] 0)).update s.heap.objs.size (Obj.mapSeq (·++vs.toArray))).objs.size=s.heap.objs.size+1:=by rw[z91,qbz]
 have hoL:(colHeap s.heap vs).get? (s.heap.objs.size+1)=some (seqObj "list" vs.toArray 0):=by unfold colHeap;rw[<-hsz];exact z7j _ rfl
 show wpAny _ _ _ _ _ { s with heap:=colHeap s.heap vs };rw[hsz];have cs:(colHeap s.heap vs).objs.size+1=s.heap.objs.size+3:=by rw[col_size]
 refine z6m (wpAny_holding (wpAny_call_entry_kw slot_list_sort ⟨_,hoL,rfl⟩ entry_list_sort (z8o (zds (s:={ s with heap:=colHeap s.heap vs }) (P:=fun fin s'=>fin=.done (.ret .none)/\Q (.ref (s.heap.objs.size+1)) s') hn hoL hv fun e1 he=>?_) (fun fin s' hf=>⟨.none,hf.1,z7g ⟨_,rfl,hf.2⟩⟩) fun _ _ e=>e) (zcj _ _)));show wpAny _ _ (keysLoop _ _ _ (.ref ((colHeap s.heap vs).objs.size+1))) _ _ _;rw[cs];refine z8o (h e1 he) (fun _ s2 k2=>?_) fun _ _ e=>e;obtain⟨keys,m,kd,U,kc,b1,b2,b3,b4,b5,b6,b7,b8⟩:=k2.ex;exact⟨keys,m,kd,U,kc,b1,b2,b3,b4,b5,b6,b7,fun out o1 o2=>⟨rfl,b8 out o1 o2 rfl⟩⟩
end
theorem zc2(v:Value):firstOfTuple' v=(do
 if(<-typeOf v) != .type "tuple" then return none
 return(<-listItems v)[0]?):=rfl
section
variable {prog:Program}{w:World}{A:Around}{E:zVP}{s:Shared}
def z33(s:Shared)(v:Value):Prop:=∃p o n a t e,v=.ref p/\s.heap.get? p=some o/\o.cls=.type "tuple"/\o.data=.seq #[.int a t,e] n
theorem zp1{v:Value}(h:z33 s v){Q:Option Value->Shared->Prop}(hq:∀a t,Q (some (.int a t)) s):wpAny (model prog w) A (firstOfTuple' v) Q E s:=by
 obtain⟨p,o,n,a,t,e,rfl,ho,hc,hd⟩:=h;rw[zc2];refine z6m (wpAny_typeOf (T:="tuple") ⟨o,ho,hc⟩ ?_);have:(Value.type "tuple" != Value.type "tuple")=false:=by rfl
 rw[this];simp only[z7c,z8d];refine z6m (qbp ho hd ?_);exact z7g (hq a t)
theorem zbr:∀{vs:List Value},(∀v∈vs,z33 s v)->∀{Q:List (Option Value)->Shared->Prop},(∀fs:List Value,(∀f∈fs,∃a t,f=.int a t)->fs.length=vs.length->Q (fs.map some) s)->wpAny (model prog w) A (vs.mapM firstOfTuple') Q E s
 | [],_,Q,h=>by rw[List.mapM_nil];exact z7g (h [] (fun f hf=>by cases hf) rfl)
 | v::vs,hv,Q,h=>by
   rw[List.mapM_cons];refine z6m (zp1 (hv v (z6w ..)) fun a t=>?_);refine z6m (zbr (fun u hu=>hv u (z6r _ hu)) fun fs hf hl=>?_);refine z7g (h (.int a t::fs) (fun f hf'=>?_) (by simp[hl]));rcases z6n.mp hf' with rfl | hf'
   · exact⟨a,t,rfl⟩
   · exact hf f hf'
theorem zcd:∀{fs:List Value},(∀f∈fs,∃a t,f=.int a t)->fs.mapM typeOf=(pure (fs.map fun _=>Value.type "int"):Sem (List Value))
 | [],_=>by simp
 | f::fs,h=>by obtain⟨a,t,rfl⟩:=h f (z6w ..);rw[List.mapM_cons,zcd fun u hu=>h u (z6r _ hu)];show(pure (Value.type "int") >>= fun b=>pure _ >>= fun bs=>pure (b::bs))=_;simp
theorem keyKind_tup{keys:List Value}(h0:keys≠[])(hf:∀v∈keys,z33 s v):wpAny (model prog w) A (keyKind' keys.toArray) (fun kd s'=>s'=s/\kd=tuples' true) E s:=by
 rw[keyKind'_eq,List.mapM_toArray];simp only[map_eq_pure_bind,bind_assoc,pure_bind];refine z6m (zbr hf fun fs h1 h2=>?_);have e1:(fs.map some).toArray.all (·.isSome)=true:=by simp
 rw[z64 e1];refine z6m (wpAny_rule ?_);have e2:(fs.map some).toArray.filterMap id=fs.toArray:=by simp
 rw[e2,oneTypeOnly'_eq,List.mapM_toArray,zcd h1];cases fs with
 |nil=>exact absurd (List.length_eq_zero_iff.mp h2.symm) h0
 | cons f fs=>
   simp only[map_pure,pure_bind,z65];have hall:((Value.type "int"::List.map (fun _=>Value.type "int") fs).toArray.all fun x=>x==Value.type "int")=true:=by rw[<-z65 (f:=fun _=>Value.type "int") (a:=f)];simp only[List.all_toArray,List.all_map,z7v];intro _ _;rfl
   have g0:(Value.type "int"::List.map (fun _=>Value.type "int") fs).toArray[0]? = some (Value.type "int"):=by simp
   rw[g0];simp only[hall,z8f,pure_bind];exact z7g ⟨rfl,rfl⟩
theorem keyKind_int{keys:List Value}(h2:2<=keys.length)(hf:∀v∈keys,∃a t,v=.int a t):wpAny (model prog w) A (keyKind' keys.toArray) (fun kd s'=>s'=s/\kd=oneType') E s:=by
 match keys,h2 with
 | v₁::v₂::vs,_=>
   have:∀(l:List Value),(∀v∈l,∃a t,v=.int a t)->∃ns,IntsAre l ns:=by
     intro l
     induction l with
     |nil=>exact fun _=>⟨[],.nil⟩
     | cons v l ih=>
       intro h;obtain⟨a,t,rfl⟩:=h v (z6w ..);obtain⟨ns,hn⟩:=ih fun u hu=>h u (z6r _ hu);exact⟨a::ns,.cons a t hn⟩
   obtain⟨ns,hn⟩:=this _ hf;rw[keyKind_ints hn];exact z7g ⟨rfl,rfl⟩
theorem keyKind_str{keys:List Value}(h2:2<=keys.length)(hf:∀v∈keys,∃a t,v=.str a t):wpAny (model prog w) A (keyKind' keys.toArray) (fun kd s'=>s'=s/\kd=oneType') E s:=by
 match keys,h2 with
 | v₁::v₂::vs,_=>
   rw[keyKind_strs (strsAre_map _ hf)];exact z7g ⟨rfl,rfl⟩
end
end Srt
namespace F
open PySem L2 PySem.Spec PySem.Calls PyProof.Rows PySem.W
open Builtin.List (listItems listUpdate)
def zsc{α:Type}(c:α->List Int)(x:α):List α->List α
 | []=>[x]
 |y::l=>if c y<c x then y::zsc c x l else x::y::l
def q8{α:Type}(c:α->List Int):List α->List α
 | []=>[]
 |x::l=>zsc c x (q8 c l)
section
variable {α β:Type}{c:α->List Int}{c':β->List Int}
theorem zd2(x:α):∀l:List α,(zsc c x l).Perm (x::l)
 | []=>z94 _
 | y::l=>by
   unfold zsc;split
   · exact((zd2 x l).cons y).trans (List.Perm.swap x y l)
   · exact z94 _
theorem jo:∀l:List α,(q8 c l).Perm l
 | []=>z94 _
 |x::l=>(zd2 x _).trans ((jo l).cons x)
theorem zpo(x:α):∀l:List α,l.Pairwise (fun a b=>¬ c b<c a)->(zsc c x l).Pairwise (fun a b=>¬ c b<c a)
 | [],_=>z9a _ _
 | y::l,h=>by
   obtain⟨h1,h2⟩:=z7p.mp h;unfold zsc;split
   · rename_i hy;refine z7p.mpr ⟨fun z hz=>?_,zpo x l h2⟩;rcases z6n.mp ((zd2 x l).mem_iff.mp hz)with rfl | hz
     · exact List.lt_asymm hy
     · exact h1 z hz
   · rename_i hy;refine z7p.mpr ⟨fun z hz=>?_,h⟩;rcases z6n.mp hz with rfl | hz
     · exact hy
     · exact z8g.mpr (List.le_trans (z8g.mp hy) (z8g.mp (h1 z hz)))
theorem zd0:∀l:List α,(q8 c l).Pairwise (fun a b=>¬ c b<c a)
 | []=>List.Pairwise.nil
 |x::l=>zpo x _ (zd0 l)
theorem zk5(f:α->β)(h:∀a,c' (f a)=c a)(x:α):∀l:List α,zsc c' (f x) (l.map f)=(zsc c x l).map f
 | []=>rfl
 | y::l=>by
   rw[z65];unfold zsc;rw[h,h];split
   · rw[z65,zk5 f h x l]
   · rfl
theorem zbi(f:α->β)(h:∀a,c' (f a)=c a):∀l:List α,q8 c' (l.map f)=(q8 c l).map f
 | []=>rfl
 | x::l=>by rw[z65];unfold q8;rw[zbi f h l,zk5 f h]
theorem zit{l out:List α}(hp:out.Perm l)(hs:out.Pairwise (fun a b=>¬ c b<c a))(hd:l.Pairwise (fun a b=>c a≠c b)):out=q8 c l:=by
 have hd2:∀a b,a∈l->b∈l->c a=c b->a=b:=by
   clear hp hs
   induction l with
   |nil=>intro a b ha;cases ha
   | cons x l ih=>
     obtain⟨h1,h2⟩:=z7p.mp hd;intro a b ha hb e;rcases z6n.mp ha with ea | ma
     · rcases z6n.mp hb with eb | mb
       · rw[ea,eb]
       · rw[ea]at e;exact absurd e (h1 b mb)
     · rcases z6n.mp hb with eb | mb
       · rw[eb]at e;exact absurd e.symm (h1 a ma)
       · exact ih h2 a b ma mb e
 refine List.Perm.eq_of_pairwise (le:=fun a b=>¬ c b<c a) (fun a b ha hb h1 h2=>?_) hs (zd0 l) (hp.trans (jo l).symm);exact hd2 a b (hp.mem_iff.mp ha) ((jo l).mem_iff.mp hb) (qa9 (z8g.mp h1) (z8g.mp h2))
end
def zgb:D->List Int
 | .int n=>[n]
 | .str z=>Srt.nums z
 | .tup [.int a,.int b]=>[a,b]
 | .tup [.int a,.str z]=>a::Srt.nums z
 |_=>[]
def kl:D->Nat
 | .int _=>0
 | .str _=>1
 | .tup [.int _,.int _]=>2
 | .tup [.int _,.str _]=>3
 |_=>4
theorem jz{d:D}(h:kl d<4):(∃n,d=.int n)\/(∃z,d=.str z)\/(∃a b,d=.tup [.int a,.int b])\/(∃a z,d=.tup [.int a,.str z]):=by
 unfold kl at h;split at h
 · exact .inl ⟨_,rfl⟩
 · exact .inr (.inl ⟨_,rfl⟩)
 · exact .inr (.inr (.inl ⟨_,_,rfl⟩))
 · exact .inr (.inr (.inr ⟨_,_,rfl⟩))
 · exact absurd h (by decide)
def zw5:Value->List Int
 | .int n _=>[n]
 | .str z _=>Srt.nums z
 |_=>[]
def zc3(h:Heap):Value->List Int
 | .ref p=>(match h.get? p with
   | some o=>(match o.data with
     | .seq its _=>its.toList.flatMap zw5
     |_=>[])
   |none=>[])
 |v=>zw5 v
def zfm(h:Heap):Nat->Value->List Int->Prop
 |0,u,c=>∃n t,u=.int n t/\c=[n]
 |1,u,c=>∃z t,u=.str z t/\c=Srt.nums z
 |2,u,c=>∃p o n a t b t',u=.ref p/\h.get? p=some o/\o.cls=.type "tuple"/\o.data=.seq #[.int a t,.int b t'] n/\c=[a,b]
 |3,u,c=>∃p o n a t b t',u=.ref p/\h.get? p=some o/\o.cls=.type "tuple"/\o.data=.seq #[.int a t,.str b t'] n/\c=a::Srt.nums b
 |_,_,_=>False
theorem znx{h:Heap}{n:Nat}{u:Value}{c:List Int}(q:zfm h n u c):zc3 h u=c:=by
 match n,q with
 |0,q=>obtain⟨n,t,e,f⟩:=q;subst e f;rfl
 |1,q=>obtain⟨n,t,e,f⟩:=q;subst e f;rfl
 | 2,q=>
   obtain⟨p,o,n,a,t,b,t',e,ho,_,hd,f⟩:=q;subst e f;simp only[zc3,ho,hd];rfl
 | 3,q=>
   obtain⟨p,o,n,a,t,b,t',e,ho,_,hd,f⟩:=q;subst e f;simp[zc3,ho,hd,zw5]
 |n+4,q=>exact False.elim q
section
variable {X:Cx}{pins:zAO}{σ:L2.St}{H:Hp}{s:Shared}{ρ:List Addr}
theorem zrg{d:D}{v:V}{u:Value}(I:Inv X pins σ H s)(hk:kl d<4)(r:Rep X.K X.mg ρ H d v)(q:RelV v u):zfm s.heap (kl d) u (zgb d):=by
 rcases jz hk with⟨n,rfl⟩ | ⟨z,rfl⟩ | ⟨a,b,rfl⟩ | ⟨a,z,rfl⟩
 · unfold Rep at r;subst r;obtain⟨t,rfl⟩:=q;exact⟨n,t,rfl,rfl⟩
 · unfold Rep at r;subst r;obtain⟨t,rfl⟩:=q;exact⟨z,t,rfl,rfl⟩
 · unfold Rep at r;obtain⟨p,vs,rfl,ht,rl⟩:=r;obtain rfl:u=Value.ref p:=q;simp only[RepL,Rep]at rl;obtain⟨v1,r1,rfl,rfl,v2,r2,rfl,rfl,rfl⟩:=rl;obtain⟨its,rv,⟨o,e,c,n,dd⟩,_⟩:=I.tuple ht.sq;cases rv with
   | cons q1 rv=>
     cases rv with
     | cons q2 rv=>
       cases rv;obtain⟨t1,rfl⟩:=q1;obtain⟨t2,rfl⟩:=q2;exact⟨p,o,n,a,t1,b,t2,rfl,e,c,dd,rfl⟩
 · unfold Rep at r;obtain⟨p,vs,rfl,ht,rl⟩:=r;obtain rfl:u=Value.ref p:=q;simp only[RepL,Rep]at rl;obtain⟨v1,r1,rfl,rfl,v2,r2,rfl,rfl,rfl⟩:=rl;obtain⟨its,rv,⟨o,e,c,n,dd⟩,_⟩:=I.tuple ht.sq;cases rv with
   | cons q1 rv=>
     cases rv with
     | cons q2 rv=>
       cases rv;obtain⟨t1,rfl⟩:=q1;obtain⟨t2,rfl⟩:=q2;exact⟨p,o,n,a,t1,z,t2,rfl,e,c,dd,rfl⟩
theorem ztl(I:Inv X pins σ H s){n:Nat}(hn:n<4):∀{kd:List D}{ws:List V}{ks:List Value},RepL X.K X.mg ρ H kd ws->Vals ws ks->(∀d∈kd,kl d=n)->(∀v∈ks,zfm s.heap n v (zc3 s.heap v))/\ks.map (zc3 s.heap)=kd.map zgb
 | [],_,_,r,q,_=>by unfold RepL at r;subst r;cases q;exact⟨fun v hv=>(by cases hv),rfl⟩
 | d::kd,_,_,r,q,hk=>by
   unfold RepL at r;obtain⟨v,vs,rfl,r1,r2⟩:=r;cases q with
   | cons q1 q2=>
     rename_i u us;obtain⟨h1,h2⟩:=ztl I hn r2 q2 fun d hd=>hk d (z6r _ hd);have e:=hk d z6w;have sh:=zrg I (by rw[e];exact hn) r1 q1;rw[e]at sh;have ev:=znx sh;refine⟨fun v hv=>?_,by rw[z65,z65,h2,ev]⟩;rcases z6n.mp hv with z | z
     · rw[z,ev];exact sh
     · exact h1 v z
end
section
variable {prog:Program}{w:World}{A:Around}{E:zVP}{s:Shared}{U:Keyed->Prop}{kc:Keyed->List Int}
theorem zny{n:Nat}(hn:n<4)(hU:∀x,U x->zfm s.heap n x.1 (kc x)):∃kd,Srt.Cmp prog w A E s kd U (Srt.bk kc)/\∀keys:List Value,2<=keys.length->(∀v∈keys,∃c,zfm s.heap n v c)->wpAny (model prog w) A (keyKind' keys.toArray) (fun kd' s'=>s'=s/\kd'=kd) E s:=by
 match n,hn,hU with
 |0,_,hU=>exact⟨_,Srt.cmp_int hU,fun keys h2 hf=>Srt.keyKind_int h2 fun v hv=>let⟨c,a,t,e,_⟩:=hf v hv;⟨a,t,e⟩⟩
 |1,_,hU=>exact⟨_,Srt.cmp_str hU,fun keys h2 hf=>Srt.keyKind_str h2 fun v hv=>let⟨c,a,t,e,_⟩:=hf v hv;⟨a,t,e⟩⟩
 |2,_,hU=>exact⟨_,Srt.cmp_ii fun x hx=>let⟨p,o,n,a,t,b,u,e,ho,_,hd,k⟩:=hU x hx;⟨p,o,n,a,t,b,u,e,ho,hd,k⟩,fun keys h2 hf=>Srt.keyKind_tup (fun z=>by rw[z]at h2;exact absurd h2 (by decide)) fun v hv=>let⟨c,p,o,n,a,t,b,u,e,ho,hc,hd,_⟩:=hf v hv;⟨p,o,n,a,t,.int b u,e,ho,hc,hd⟩⟩
 |3,_,hU=>exact⟨_,Srt.cmp_is fun x hx=>let⟨p,o,n,a,t,b,u,e,ho,_,hd,k⟩:=hU x hx;⟨p,o,n,a,t,b,u,e,ho,hd,k⟩,fun keys h2 hf=>Srt.keyKind_tup (fun z=>by rw[z]at h2;exact absurd h2 (by decide)) fun v hv=>let⟨c,p,o,n,a,t,b,u,e,ho,hc,hd,_⟩:=hf v hv;⟨p,o,n,a,t,.str b u,e,ho,hc,hd⟩⟩
end
section
variable {X:Cx}{pins:zAO}{σ:L2.St}{H:Hp}{s:Shared}{ρ:List Addr}{k:Nat}{t:LT}{g:G}{cl:zLA}{is:List Nat}{kv:List D}{ev:Ev}{a c:Addr}{pm ct:Value}{S S':Sto}
theorem zsy{A:Around}{ds:List D}{d':D}{vs:List V}{us:List Value}{Q:VK}{E:zVP}(cal:CCal X.prog X.w X.K X.mg X.base k t g)(hn:∀b∈cl.map (·.2),H b=none)(isc:∀b∈cl.map (·.2),∃o v,s.heap.get? b=some o/\o.data=.cell v)(nodup:(cl.map (·.2)).Nodup)
   (nst:∀b∈cl.map (·.2),b∉frs X.stack) (nb:∀b∈cl.map (·.2),X.base.get? b=none) {cs:List V} (hcs:Cells ρ (trk H s.heap cl) t.caps cs cl) (rk:RepL X.K X.mg ρ H kv cs)
   (hr:Room k A) (env0:∀{H':Hp},Env0 X.prog X.w X.K X.mg X.base X.A X.stack s H'->Env0 X.prog X.w X.K X.mg X.base A X.stack s H')
   (I:Inv X pins σ H s) (hS:StOk X.K X.mg ρ H S) (na:a∉ρ) (nc:c∉ρ) (hA:H a=some (.ext (zms t cl a c pm ct))) (hC:H c=some (.ext (zad c t.qual)))
   (rd:RepL X.K X.mg ρ H ds vs) (rv:Vals vs us) (hlen:ds.length=t.params.args.length) (hno:(noCL ds&&noCL kv&&noCS S)=true) (hg:g (ds++kv) S=some (d',S')) (hno':(noC d'&&noCS S')=true)
   (kk:∀v ρ' H',Ext ρ H ρ' H'->StOk X.K X.mg ρ' H' S'->Rep X.K X.mg ρ' H' d' v->Q v H') :
   wpAny (model X.prog X.w) A (call (.ref a) us) (EP X pins σ Q) E s:=by
 obtain⟨ps,F,hb⟩:=cal.ex;rw[z8e]at hno';obtain⟨n1,n2⟩:=hno';have E2:Ext ρ H ρ (trk H s.heap cl):=⟨fun _ _ e=>e,fun b o h n=>by
   unfold trk;rw[q0 (fun z=>by rw[hn b z]at h;cases h)];exact h,fun _ z n=>absurd z n⟩
 have hS2:StOk X.K X.mg ρ (trk H s.heap cl) S:=hS.on hn;have cin:CellsIn (trk H s.heap cl) cl:=fun b hb=>by obtain⟨o,v,h1,_⟩:=isc b hb;exact⟨o,by unfold trk;rw[zcc hb,h1];rfl⟩
 have hok0:HOk X.prog X.w (trk H s.heap cl) s.heap:=fun b u e=>by
   unfold trk at e;by_cases z:b∈cl.map (·.2)
   · obtain⟨o,v,h1,_⟩:=isc b z;rw[zcc z,h1]at e;cases e;exact⟨h1,⟨o,h1⟩⟩
   · rw[q0 z]at e;refine(I.hok b u e).stay (fun _ _ _ q=>q) (fun d q=>?_) fun d xs q=>?_
     · unfold trk;rw[q0 (fun y=>by rw[hn d y]at q;cases q)];exact q
     · unfold trk;rw[q0 (fun y=>by rw[hn d y]at q;cases q)];exact q
 have e0:Env0 X.prog X.w X.K X.mg X.base X.A X.stack s (trk H s.heap cl):=by
   have e:=I.env0;refine⟨e.frames,e.mod,fun b o h=>⟨(e.bs b o h).1,?_⟩,e.bsz,e.funs,fun b hb=>?_,hok0,e.bare⟩
   · unfold trk;rw[q0];exact(e.bs b o h).2;intro z;rw[nb b z]at h;cases h
   · unfold trk;rw[q0];exact e.frf b hb;exact fun z=>nst b z hb
 have hsp:znr X.K X.mg t a c pm ct cl g vs (trk H s.heap cl) (fun v H'=>CellsIn H' cl->Q v (zb2 H' cl)) E0 :=
   ⟨ρ,ds,S,d',S',cs,kv,rd.mono E2,hS2,E2.keep _ _ hA na,E2.keep _ _ hC nc,nodup,hcs,rk.mono E2,hno,hg,hlen,fun v ρ' H' E' hS' r' ci=>by
     refine kk v ρ' (zb2 H' cl) ⟨E'.pre,fun b o hb nb=>?_,fun b hb nb=>?_⟩ (hS'.off ci n2) (r'.off ci n1)
     · have z:b∉cl.map (·.2):=fun z=>by rw[hn b z]at hb;cases hb
       rw[jv z];exact E'.keep b o (E2.keep b o hb nb) nb
     · have:=E'.new b hb nb;by_cases z:b∈cl.map (·.2)
       · exact hn b z
       · unfold trk at this;rw[q0 z]at this;exact this⟩
 have hl:(us++[]).length=ps.length:=by rw[z7h,<-rv.length];exact(F a c pm ct cl).len _ _ _ _ hsp
 have hbt:=hb c pm ct cl s us I.kIn hl;rw[z7h]at hbt;refine wpAny_call (qa5 ((F a c pm ct cl).run A X.stack s (trk H s.heap cl) ⟨us,[]⟩ us _ _ E0 hr (env0 e0) hbt rv hsp) fun r s' hq=>?_);cases r with
 |error e=>exact hq.elim
 | ok fl=>
   cases fl with
   | ret u=>
     obtain⟨v,H',os,bare,un,hok,rv,q⟩:=hq;have ci:CellsIn H' cl:=fun b hb=>let⟨o,z⟩:=cin b hb;⟨o,un.frzs b o _ z⟩;obtain⟨hh,gn,dr,tt,os'⟩:=s';obtain rfl:os'=s.os:=os;exact⟨v,zb2 H' cl,I.call (h':=hh) (g':=gn) (d':=dr) (t':=tt) (ch:=[]) (ztd hn un (fun b hb=>let⟨o,_,z,_⟩:=isc b hb;⟨o,z⟩) (fun b o w z=>(hok b _ z).1)) (zjc hok ci) bare (fun b z=>absurd z (by simp)),rv,q ci⟩
   |next=>exact False.elim hq
   |brk=>exact False.elim hq
   |cont=>exact False.elim hq
theorem CapsOk.nst(C:CapsOk X t cl is)(I:Inv X pins σ H s):∀b∈cl.map (·.2),b∉frs X.stack:=fun b hb z=>by
 obtain⟨p,hp,rfl⟩:=z9k.mp hb;rcases z6n.mp (I.stkSub _ z)with y | y
 · exact I.cne _ _ (C.look p hp) y
 · obtain⟨_,o',h3,_⟩:=I.ok.funs.mem y;have:=I.ok.cab p.1 p.2 (C.fn _ (C.names▸z8n hp)) (C.look p hp);exact absurd (z69 h3) (z92.mpr this)
theorem CapsOk.nb(C:CapsOk X t cl is)(I:Inv X pins σ H s):∀b∈cl.map (·.2),X.base.get? b=none:=fun b hb=>by obtain⟨p,hp,rfl⟩:=z9k.mp hb;have:=I.ok.cab p.1 p.2 (C.fn _ (C.names▸z8n hp)) (C.look p hp);exact qba (z67 I.ok.bsz this)
def zi9(g:G)(n:Nat)(kv:List D):List D->Sto->Option (List D×Sto)
 | [],S=>some ([],S)
 |d::ds,S=>if(noCL [d]&&noCL kv&&noCS S)=true/\n=1 then (g ([d]++kv) S).bind fun p=>if(noC p.1&&noCS p.2)=true then (zi9 g n kv ds p.2).map fun q=>(p.1::q.1,q.2)else none else none
def zlo(a:Addr)(items:Array Value)(kf keyStore x:Value):Sem (ForInStep PUnit):=do
 let __do_lift <-(call kf [x]).attempt
 match __do_lift with
 | Except.ok k=>do
   listUpdate keyStore fun x=>x.push k
   pure (ForInStep.yield PUnit.unit)
 | Except.error e=>do
   rule "list.sort.key-raised"
   let made <-listItems keyStore
   listUpdate keyStore fun x=>#[]
   letGo made.toList.reverse [e]
   listUpdate (Value.ref a) fun x=>items
   throw (α:=Unit) e
   pure (ForInStep.yield PUnit.unit)
theorem zga(a:Addr)(items:List Value)(kf keyStore:Value):Srt.keysLoop a items.toArray kf keyStore=forIn items PUnit.unit fun x _=>zlo a items.toArray kf keyStore x:=by unfold Srt.keysLoop;rw[List.forIn_toArray];rfl
theorem zhm{ks aL:Addr}{E:zVP}(cal:CCal X.prog X.w X.K X.mg X.base k t g)(C:CapsOk X t cl is)(hr:Room k X.A.in1.in1)(hkv:zh2 ev is=some kv)
   (hL:ks≠X.env.locals) (h1:ks∈X.ex\/X.s₀.heap.objs.size<=ks) (h2:∀x c,X.env.cells.lookup x=some c->c≠ks) (h3:∀p∈X.pn++pins,p.1≠ks) (hf:ks∉X.fs) (items:Array Value) {R:Shared->Prop} :
   ∀(ds:List D) (us:List Value) (vs:List V) (kd accD:List D) (accV:List V) (acc:List Value) (m:Nat) (s:Shared) (H:Hp) (ρ:List Addr) (S S':Sto),
     EnvR X.K X.mg ρ H ev σ->StOk X.K X.mg ρ H S->RepL X.K X.mg ρ H ds vs->Vals vs us->RepL X.K X.mg ρ H accD accV->Vals accV acc->a∉ρ->c∉ρ->H a=some (.ext (zms t cl a c pm ct))->H c=some (.ext (zad c t.qual))->zi9 g t.params.args.length kv ds S=some (kd,S') ->
     Inv X pins σ H s->s.heap.get? ks=some (seqObj "list" acc.toArray m)->H ks=none->acc.length+us.length<=100000 ->
     (∀(keysV:List V) (keys:List Value) (m:Nat) (s':Shared) (H':Hp) (ρ':List Addr),Ext ρ H ρ' H'->StOk X.K X.mg ρ' H' S'->RepL X.K X.mg ρ' H' (accD++kd) keysV->Vals keysV keys->keys.length=acc.length+us.length->Inv X pins σ H' s'->s'.heap.get? ks=some (seqObj "list" keys.toArray m)->H' ks=none->R s') ->
     wpAny (model X.prog X.w) X.A.in1.in1 (forIn us PUnit.unit fun x _=>zlo aL items (.ref a) (.ref ks) x) (fun _ s'=>R s') E s
 | [],us,vs,kd,accD,accV,acc,m,s,H,ρ,S,S',hE,hS,rd,rv,ra,va,na,nc,hA,hC,hk,I,gk,nk,hl,fin=>by unfold RepL at rd;subst rd;cases rv;cases hk;rw[List.forIn_nil];exact z7g (fin accV acc m s H ρ (Ext.refl _ _) hS (by rw[z7h];exact ra) va (by simp) I gk nk)
 | d::ds,us,vs,kd,accD,accV,acc,m,s,H,ρ,S,S',hE,hS,rd,rv,ra,va,na,nc,hA,hC,hk,I,gk,nk,hl,fin=>by
   unfold RepL at rd;obtain⟨v,vs,rfl,rd1,rd2⟩:=rd;cases rv with
   | cons rv0 rv1=>
     rename_i u us;unfold zi9 at hk;split at hk
     · rename_i hno;obtain⟨hno,hn1⟩:=hno;obtain⟨⟨d',S1⟩,hg,hk⟩:=zy hk;dsimp only at hk;split at hk
       · rename_i hno';obtain⟨⟨kd',S2⟩,hk1,hk2⟩:=zav hk;cases hk2;rw[qau];unfold zlo;simp only[bind_assoc];have Ik:Inv X (pins++[(ks,seqObj "list" acc.toArray m)]) σ H s:=I.pins_of fun p hp=>by
           rcases z62.mp hp with q | q
           · exact I.pin p (z6x _ q)
           · rw[z6q.mp q];exact⟨gk,nk,hL,hf,fun v e=>by cases e⟩
         obtain⟨cs,hcs,rk⟩:=zeg C Ik hE hS cl is kv (fun _ h=>h) (by
           rw[C.at_,<-C.names,qar];rfl) hkv
         rw[C.names]at hcs;refine z6m (wpAny_attempt (thn (zsy (A:=X.A.in1.in1) (Q:=fun v H'=>∃ρ',Ext ρ H ρ' H'/\StOk X.K X.mg ρ' H' S1/\Rep X.K X.mg ρ' H' d' v) cal (C.hn Ik) (C.isc Ik) (C.nodup Ik) (C.nst Ik) (C.nb Ik) hcs rk hr (fun e=>e.in1.in1) Ik hS na nc hA hC (RepL.cons rd1 RepL.nil) (.cons rv0 .nil) (by rw[hn1];rfl) hno hg hno' fun v ρ' H' E' hS' r'=>⟨ρ',E',hS',r'⟩) fun q s' hq=>?_));obtain⟨v',H1,I1,rv,ρ1,E1,hS1,r1⟩:=hq;obtain⟨gk1,nk1,_⟩:=I1.pin (ks,seqObj "list" acc.toArray m) (z6x _ (z6x _ (z6q.mpr rfl)));have I2:Inv X pins σ H1 s':=I1.unpinned;dsimp only;refine z6m (z6m (listUpdate_at (f:=fun x=>x.push q) gk1 rfl ?_ (hsz2:=by
           show(acc.toArray.push q).size<=_;rw[z7t,z6v,z7z];rw[List.length_cons]at hl;omega)))
         refine z7g ?_;show wpAny (model X.prog X.w) X.A.in1.in1 (forIn us PUnit.unit fun x _=>zlo aL items (.ref a) (.ref ks) x) (fun _ s'=>R s') E _;have keep:∀b o,b≠ks->s'.heap.get? b=some o->(s'.heap.update ks (Obj.mapSeq fun x=>x.push q)).get? b=some o:=fun b o nb e=>by rw[z80 _ _ _ _ nb];exact e
         have I3:=I2.turned (t':=s'.toks) keep nk1 hL h1 h2 h3;obtain⟨m2,gk2⟩:∃m2,(s'.heap.update ks (Obj.mapSeq fun x=>x.push q)).get? ks=some (seqObj "list" (acc++[q]).toArray m2):=by
           have e:=get?_update_seq gk1 (fun x=>x.push q);have e2:acc.toArray.push q=(acc++[q]).toArray:=by simp
           rw[e2]at e;exact⟨_,e⟩
         refine zhm cal C hr hkv hL h1 h2 h3 hf items ds us vs kd' (accD++[d']) (accV++[v']) (acc++[q]) m2 _ H1 ρ1 S1 S2 (hE.mono E1) hS1 (rd2.mono E1) rv1 ((ra.mono E1).append (RepL.cons r1 RepL.nil)) (va.append (.cons rv .nil)) (E1.out hA na) (E1.out hC nc) (E1.keep _ _ hA na) (E1.keep _ _ hC nc) hk1 I3 gk2 nk1 (by rw[z6k];rw[List.length_cons]at hl;simp;omega) fun keysV keys m3 s3 H3 ρ3 c0 c1 c2 c3 c4 c5 c6 c7=>?_;refine fin keysV keys m3 s3 H3 ρ3 (E1.trans c0) c1 ?_ c3 (by rw[c4,z6k,List.length_cons];simp;omega) c5 c6 c7;rw[z61]at c2;exact c2
       · cases hk
     · cases hk
end
def kn(ks:List D):Nat:=kl (ks.headD (.int 0))
def zns(ks ds:List D):Option (List D):=if kn ks<4/\(∀d∈ks,kl d=kn ks)/\(ks.map zgb).Pairwise (·≠·)then some ((q8 (fun p:List Int×D=>p.1) ((ks.map zgb).zip ds)).map (·.2))else none
def zfh(f:E)(g:G)(j:Nat)(y:Str)(t:LT)(is:List Nat):E:=fun ev S=>(f ev S).bind fun p=>(z2m p.2 p.1).bind fun ds=>match p.2[j]? with
 |some (.tab y' u)=>if y'=y/\u=t.qual/\ds.length<=100000 then (zh2 ev is).bind fun kv=>(zi9 g t.params.args.length kv ds p.2).bind fun q=>(zns q.1 ds).map fun r=>(.lst r,q.2)else none
 |_=>none
theorem zyb{K mg ρ H S x ds v}(hS:StOk K mg ρ H S)(r:Rep K mg ρ H x v)(e:z2m S x=some ds):∃l vs,v=.ref l/\SqL K H l vs/\RepL K mg ρ H ds vs:=by
 cases x with
 | lst xs=>
   cases e;unfold Rep at r;obtain⟨p,vs,rfl,t,rl⟩:=r;exact⟨p,vs,rfl,t.sq,rl⟩
 | obj i=>
   unfold Rep at r;obtain⟨a,rfl,ha⟩:=r;have e:(match S[i]? with | some (.lst ds)=>some ds | _=>none)=some ds:=e;split at e
   · rename_i ds' hd;cases e;obtain⟨b,hb,vs,h1,h2⟩:=hS.adr hd;rw[ha]at hb;cases hb;exact⟨a,vs,rfl,.inl (.inl h1),h2⟩
   · cases e
 |_=>cases e
theorem zsv{h:Heap}{vs:List Value}{b:Addr}{o:Obj}(e:h.get? b=some o):(Srt.colHeap h vs).get? b=some o:=by unfold Srt.colHeap;refine z6u _ ?_;rw[z80 _ _ _ _ (z7b (z69 e))];exact z6u _ e
theorem zs8{h:Heap}{a:Addr}{vs:List Value}{b:Addr}{o:Obj}(ne:b≠a)(e:h.get? b=some o):(Srt.askHeap h a vs).get? b=some o:=by unfold Srt.askHeap;refine z6u _ (z6u _ ?_);rw[z80 _ _ _ _ ne];exact e
theorem zqu{h:Heap}{a:Addr}{vs:List Value}:(Srt.askHeap h a vs).get? (h.objs.size+1)=some (seqObj "list" ([]:List Value).toArray 0):=by
 unfold Srt.askHeap;have:((h.update a (Obj.mapSeq fun _=>#[])).push (seqObj "tuple" vs.toArray 0)).objs.size=h.objs.size+1:=by rw[qbz,z91]
 rw[<-this];exact z7j _ rfl
theorem zxm{α β γ δ:Type}:∀(ks:List α) (is:List β) (vs:List γ) (ds:List δ),ks.length=is.length->is.length=vs.length->vs.length=ds.length->(ks.zip (is.zip (vs.zip ds))).map (fun z=>(z.1,z.2.1))=ks.zip is
 | [],_,_,_,_,_,_=>by simp
 |k::ks,[],_,_,h,_,_=>by cases h
 |k::ks,i::is,[],_,_,h,_=>by cases h
 |k::ks,i::is,v::vs,[],_,_,h=>by cases h
 | k::ks,i::is,v::vs,d::ds,h1,h2,h3=>by simp only[List.zip_cons_cons,z65];rw[zxm ks is vs ds (qa7 h1) (qa7 h2) (qa7 h3)]
theorem zxl{α β γ δ ε:Type}(f:α->ε):∀(ks:List α) (is:List β) (vs:List γ) (ds:List δ),ks.length=is.length->is.length=vs.length->vs.length=ds.length->(ks.zip (is.zip (vs.zip ds))).map (fun z=>(f z.1,z.2.2.2))=(ks.map f).zip ds
 | [],_,_,_,_,_,_=>by simp
 |k::ks,[],_,_,h,_,_=>by cases h
 |k::ks,i::is,[],_,_,h,_=>by cases h
 |k::ks,i::is,v::vs,[],_,_,h=>by cases h
 | k::ks,i::is,v::vs,d::ds,h1,h2,h3=>by simp only[List.zip_cons_cons,z65];rw[zxl f ks is vs ds (qa7 h1) (qa7 h2) (qa7 h3)]
theorem zm9{K mg ρ H}:∀{ds:List D}{vs:List V}{us:List Value},RepL K mg ρ H ds vs->Vals vs us->∀z∈us.zip (vs.zip ds),RelV z.2.1 z.1/\Rep K mg ρ H z.2.2 z.2.1
 | [],_,_,r,q,z,hz=>by unfold RepL at r;subst r;cases q;cases hz
 | d::ds,_,_,r,q,z,hz=>by
   unfold RepL at r;obtain⟨v,vs,rfl,r1,r2⟩:=r;cases q with
   | cons q1 q2=>
     rcases z6n.mp hz with rfl | hz
     · exact⟨q1,r1⟩
     · exact zm9 r2 q2 z hz
theorem zj4{α:Type}{f:α->V}{g:α->Value}:∀{l:List α},(∀z∈l,RelV (f z) (g z))->Vals (l.map f) (l.map g)
 | [],_=>.nil
 |z::l,h=>.cons (h z z6w) (zj4 fun y hy=>h y (z6r _ hy))
theorem zki{K mg ρ H}{α:Type}{f:α->D}{g:α->V}:∀{l:List α},(∀z∈l,Rep K mg ρ H (f z) (g z))->RepL K mg ρ H (l.map f) (l.map g)
 | [],_=>RepL.nil
 |z::l,h=>RepL.cons (h z z6w) (zki fun y hy=>h y (z6r _ hy))
theorem zjw:bootBuiltins "sorted"=some (.builtin "sorted"):=by with_unfolding_all rfl
section
variable {X:Cx}{k j:Nat}{y:Str}{g:G}{f:E}{t:LT}{cl:zLA}{is:List Nat}{e le:Expr}{p pos kp:Pos}
theorem zsh(cal:CCal X.prog X.w X.K X.mg X.base k t g)(C:CapsOk X t cl is)(hr:Room (k+2) X.A)(he:FE X e f)(hl:PE X le (z4f X.K X.mg j y t cl))(hm:X.mg "sorted"=none)(hg:Gl X "sorted":=by rfl)
   (hs:starEach [e] X.env=(false,eval e X.env)::starEach [] X.env:=by exact qb rfl):FE X (.Call (.Name "sorted" p) [e] [⟨some "key",le,kp⟩] pos) (zfh f g j y t is):=by
 intro pins s σ H Q I h;obtain⟨ρ,ev,S,d,S',hE,hS,hf,kk⟩:=h;unfold zfh at hf;obtain⟨⟨x,S1⟩,q1,hf1⟩:=zy hf;clear hf;obtain⟨ds,q2,hf0⟩:=zy hf1;clear hf1;dsimp only at hf0;split at hf0
 · rename_i y' u hj;split at hf0
   · rename_i hyu;obtain⟨rfl,rfl,hlen⟩:=hyu;obtain⟨kv,q3,hf⟩:=zy hf0;obtain⟨⟨kd,S2⟩,q4,hf⟩:=zy hf;obtain⟨r,q5,hf⟩:=zav hf;cases hf;refine z8t (zdw I hg hm zjw ?_ (by decide) (by decide));have hb0:backTo pos (starEach [e] X.env)=(false,eval e X.env)::backTo pos (starEach [] X.env):=by rw[hs];rfl
     refine callWith_kw ?_ hb0 (by rw[hb0];rfl);refine thn (zb he ze hs pos pins s σ H (fun vs H1=>∃ρ1 v,vs=[v]/\Ext ρ H ρ1 H1/\StOk X.K X.mg ρ1 H1 S1/\Rep X.K X.mg ρ1 H1 x v) I ⟨ρ,ev,S,[x],S1,hE,hS,by unfold aC;rw[q1];rfl,fun vs ρ1 H1 E1 hS1 r1=>?_⟩) fun us s1 ⟨vs,H1,I1,rv,ρ1,v,ev1,E1,hS1,r1⟩=>?_
     · unfold RepL at r1;obtain⟨v,r',rfl,h1,h2⟩:=r1;unfold RepL at h2;subst h2;exact⟨ρ1,v,rfl,E1,hS1,h1⟩
     · subst ev1;cases rv with
       | @cons _ uu _ _ rv0 rv1=>
         cases rv1;refine kws_cons (thn (hl pins s1 σ H1 (fun v H2=>∃a c pm ct,v=.ref a/\Ext ρ1 H1 ρ1 H2/\StOk X.K X.mg ρ1 H2 S1/\a∉ρ1/\c∉ρ1/\H2 a=some (.ext (zms t cl a c pm ct))/\H2 c=some (.ext (zad c t.qual))) I1 ⟨ρ1,S1,hS1,hj,fun a c pm ct H' E' hS' na nc h1 h2=>⟨a,c,pm,ct,rfl,E',hS',na,nc,h1,h2⟩⟩) fun kfv s2 ⟨vk,H2,I2,rk,a,c,pm,ct,ek,E2,hS2,na,nc,hA,hC⟩=>kws_nil ?_);subst ek;obtain rfl:kfv=Value.ref a:=rk;show wpAny _ _ (call (.builtin "sorted") [uu] [(("key":Str),.ref a)]) _ _ _;obtain⟨l,vs,ev2,sq,rl⟩:=zyb hS2 (r1.mono E2) q2;subst ev2;obtain rfl:uu=Value.ref l:=rv0;obtain⟨its,rvs,pl,hz⟩:=I2.list sq;have l1:vs.length=its.length:=rvs.length;have l2:ds.length=vs.length:=rl.length;refine Srt.sorted_key pl.isList rfl (by omega) fun e1 he1=>?_;have szc:(Srt.colHeap s2.heap its).objs.size+1=s2.heap.objs.size+3:=by rw[Srt.col_size]
         have keep:∀b o,s2.heap.get? b=some o->(Srt.askHeap (Srt.colHeap s2.heap its) (s2.heap.objs.size+1) its).get? b=some o:=fun b o e=>zs8 (z7b (qag (z69 e))) (zsv e);have gks:(Srt.askHeap (Srt.colHeap s2.heap its) (s2.heap.objs.size+1) its).get? (s2.heap.objs.size+3)=some (seqObj "list" ([]:List Value).toArray 0):=by rw[<-szc];exact zqu
         have I3:Inv X pins σ H2 { s2 with heap:=Srt.askHeap (Srt.colHeap s2.heap its) (s2.heap.objs.size+1) its }:=I2.kept (t':=s2.toks) keep;have fr:∀n,H2 (s2.heap.objs.size+n)=none:=fun n=>I2.hok.fresh (z63 _ _);have nl:∀n,s2.heap.objs.size+n≠X.env.locals:=fun n z=>absurd I2.lt (by rw[<-z];exact z92.mpr (z63 _ _));have ncell:∀n x c,X.env.cells.lookup x=some c->c≠s2.heap.objs.size+n:=fun n x c e z=>by obtain⟨v,o,ho,_⟩:=I2.cell x c e;have:=z69 ho;rw[z]at this;exact absurd this (z92.mpr (z63 _ _))
         have npin:∀n,∀p∈X.pn++pins,p.1≠s2.heap.objs.size+n:=fun n p hp z=>by have:=z69 (I2.pin p hp).1;rw[z]at this;exact absurd this (z92.mpr (z63 _ _))
         have I4:Inv X (pins++[(s2.heap.objs.size+1,seqObj "list" #[] e1)]) σ H2 { s2 with heap:=Srt.askHeap (Srt.colHeap s2.heap its) (s2.heap.objs.size+1) its }:=I3.pins_of fun p hp=>by
           rcases z62.mp hp with q | q
           · exact I3.pin p (z6x _ q)
           · rw[z6q.mp q];exact⟨he1,fr 1,nl 1,I2.nofs (z63 _ _),fun v e=>by cases e⟩
         rw[zga];refine zhm cal C hr.in1.in1 q3 (nl 3) (.inr (z67 I2.sz (z63 _ _))) (ncell 3) (fun p hp=>?_) (I2.nofs (z63 _ _)) _ ds its vs kd [] [] [] 0 _ H2 ρ1 S1 S2 ((hE.mono E1).mono E2) hS2 rl rvs RepL.nil .nil na nc hA hC q4 I4 gks (fr 3) (by simp;omega) fun keysV keys m s5 H5 ρ5 E5 hS5 rk vk lk I5 gk nk=>?_
         · rw[<-z61]at hp;rcases z62.mp hp with q | q
           · exact npin 3 p q
           · rw[z6q.mp q];show s2.heap.objs.size+1≠s2.heap.objs.size+3;omega
         · obtain⟨ga,na5,_⟩:=I5.pin (s2.heap.objs.size+1,seqObj "list" #[] e1) (z6x _ (z6x _ (z6q.mpr rfl)));rw[List.nil_append]at rk;have lk:keys.length=its.length:=by simpa using lk
           unfold zns at q5;split at q5
           · rename_i hc;cases q5;obtain⟨hn4,hkn,hpw⟩:=hc;obtain⟨sh,em⟩:=ztl I5 hn4 rk vk hkn;have hU:∀x:Keyed,x∈keys.zip its->zfm s5.heap (kn kd) x.1 (zc3 s5.heap x.1):=fun x hx=>sh _ (z9g (a:=x.1) (b:=x.2) hx).1;obtain⟨kdd,hcmp,hkk⟩:=zny (prog:=X.prog) (w:=X.w) (A:=X.A.in1.in1) (E:=X.xe) (U:=fun x=>x∈keys.zip its) (kc:=fun x=>zc3 s5.heap x.1) hn4 hU;have pwk:(keys.zip its).Pairwise (fun x y=>zc3 s5.heap x.1≠zc3 s5.heap y.1):=by
               rw[<-em,qa1]at hpw;have:((keys.zip its).map (·.1)).Pairwise (fun a b=>zc3 s5.heap a≠zc3 s5.heap b):=by rw[List.map_fst_zip (by omega)];exact hpw
               rw[qa1]at this;exact this
             refine⟨keys,m,kdd,fun x=>x∈keys.zip its,fun x=>zc3 s5.heap x.1,gk,ga,lk,fun h2=>hkk keys (by omega) fun v hv=>⟨_,sh v hv⟩,hcmp,fun x hx=>hx,pwk,fun out ho hs _=>?_⟩;have eo:=zit (c:=fun x:Keyed=>zc3 s5.heap x.1) ho hs pwk;have m1:=zbi (c:=fun z:Value×Value×V×D=>zc3 s5.heap z.1) (c':=fun x:Keyed=>zc3 s5.heap x.1) (fun z=>(z.1,z.2.1)) (fun _=>rfl) (keys.zip (its.zip (vs.zip ds)));have m2:=zbi (c:=fun z:Value×Value×V×D=>zc3 s5.heap z.1) (c':=fun p:List Int×D=>p.1) (fun z=>(zc3 s5.heap z.1,z.2.2.2)) (fun _=>rfl) (keys.zip (its.zip (vs.zip ds)));rw[zxm keys its vs ds lk l1.symm l2.symm]at m1;rw[zxl (zc3 s5.heap) keys its vs ds lk l1.symm l2.symm,em]at m2;rw[m1]at eo;have zr:∀z∈q8 (fun z:Value×Value×V×D=>zc3 s5.heap z.1) (keys.zip (its.zip (vs.zip ds))),RelV z.2.2.1 z.2.1/\Rep X.K X.mg ρ5 H5 z.2.2.2 z.2.2.1:=fun z hz=>
               zm9 (rl.mono E5) rvs z.2 (z9g (a:=z.1) (b:=z.2) ((jo _).mem_iff.mp hz)).2
             have e2:out.map (·.2)=(q8 (fun z:Value×Value×V×D=>zc3 s5.heap z.1) (keys.zip (its.zip (vs.zip ds)))).map (fun z=>z.2.1):=by rw[eo,qar];rfl
             have e3:(q8 (fun p:List Int×D=>p.1) ((kd.map zgb).zip ds)).map (·.2)=(q8 (fun z:Value×Value×V×D=>zc3 s5.heap z.1) (keys.zip (its.zip (vs.zip ds)))).map (fun z=>z.2.2.2):=by rw[m2,qar];rfl
             have rvals:Vals ((q8 (fun z:Value×Value×V×D=>zc3 s5.heap z.1) (keys.zip (its.zip (vs.zip ds)))).map (fun z=>z.2.2.1)) (out.map (·.2)):=by rw[e2];exact zj4 fun z hz=>(zr z hz).1
             have rreps:RepL X.K X.mg ρ5 H5 ((q8 (fun p:List Int×D=>p.1) ((kd.map zgb).zip ds)).map (·.2)) ((q8 (fun z:Value×Value×V×D=>zc3 s5.heap z.1) (keys.zip (its.zip (vs.zip ds)))).map (fun z=>z.2.2.1)):=by rw[e3];exact zki fun z hz=>(zr z hz).2
             have lo:(out.map (·.2)).length=its.length:=by rw[z8s,ho.length_eq,List.length_zip,lk,Nat.min_self]
             have szl:((q8 (fun z:Value×Value×V×D=>zc3 s5.heap z.1) (keys.zip (its.zip (vs.zip ds)))).map (fun z=>z.2.2.1)).length<=sizeLine:=by rw[rvals.length,lo];omega
             have I6:=I5.turned (t':=s5.toks) (it:=s2.heap.objs.size+3) (h':=s5.heap.update (s2.heap.objs.size+3) (Obj.mapSeq fun _=>#[])) (fun b o nb e=>by rw[z80 _ _ _ _ nb];exact e) nk (nl 3) (.inr (z67 I2.sz (z63 _ _))) (ncell 3) (fun p hp=>by
               rw[<-z61]at hp;rcases z62.mp hp with q | q
               · exact npin 3 p q
               · rw[z6q.mp q];show s2.heap.objs.size+1≠s2.heap.objs.size+3;omega)
             have ga6:(s5.heap.update (s2.heap.objs.size+3) (Obj.mapSeq fun _=>#[])).get? (s2.heap.objs.size+1)=some (seqObj "list" #[] e1):=by rw[z80 _ _ _ _ (z7b (z9h (by decide) _))];exact ga
             have I7:=(Inv.unpinned I6).turned (t':=s5.toks) (it:=s2.heap.objs.size+1) (h':=(s5.heap.update (s2.heap.objs.size+3) (Obj.mapSeq fun _=>#[])).update (s2.heap.objs.size+1) (Obj.mapSeq fun _=>(out.map (·.2)).toArray)) (fun b o nb e=>by rw[z80 _ _ _ _ nb];exact e) na5 (nl 1) (.inr (z67 I2.sz (z63 _ _))) (ncell 1) (npin 1);have ga7:=get?_update_seq ga6 (fun _=>(out.map (·.2)).toArray);have I8:=Inv.track I7 na5 ga7 rvals szl (.inr (z67 I2.sz (z63 _ _))) (nl 1) (ncell 1) (npin 1);exact⟨.ref (s2.heap.objs.size+1),_,I8,rfl,kk _ ρ5 _ (((E1.trans E2).trans E5).trans (ji hS5 _ na5)) (hS5.new _ na5) (Rep.lst (s:=hS5) na5 rreps)⟩
           · cases q5
   · cases hf0
 · cases hf0
end
end F
namespace F
open PySem L2 PySem.Spec PySem.Calls PyProof.Rows PySem.W
abbrev Src:=Ev->Sto->Option ((List D×Option Nat)×Sto)
def okG(us:List D):Option Nat->Sto->Prop
 |none,_=>True
 |some a,S=>S[a]? = some (.lst us)
def zao(us:List D)(o:Option Nat)(c:B)(g:E)(fr:Ev):List D->Sto->Option (List D×Sto):=match o with
 |none=>zef c g fr
 |some a=>yu a us c g fr
section
variable {us:List D}{o:Option Nat}{c:B}{g:E}{fr:Ev}
theorem zsu{ds:List D}{S:Sto}{r:List D×Sto}(h:zao us o c g fr ds S=some r):okG us o S:=by
 cases o with
 |none=>trivial
 |some a=>exact zqj h
theorem zqi{S:Sto}(h:okG us o S):zao us o c g fr [] S=some ([],S):=by
 cases o with
 |none=>rfl
 |some a=>exact zfk (c:=c) (g:=g) (fr:=fr) h
theorem zmp{d:D}{ds:List D}{S:Sto}(h:okG us o S):zao us o c g fr (d::ds) S=(c (some d::fr) S).bind fun p=>if p.1=true then (g (some d::fr) p.2).bind fun q=>(zao us o c g fr ds q.2).bind fun r=>some (q.1::r.1,r.2)else zao us o c g fr ds p.2:=by
 cases o with
 |none=>rfl
 |some a=>exact zee h
end
def ztb(K:Frag)(mg:zMg)(J:It)(us:List D)(o:Option Nat)(ρ1:List Addr)(H1:Hp):Prop:=∀ρ' H' S',Ext ρ1 H1 ρ' H'->StOk K mg ρ' H' S'->okG us o S' ->
 (∀i d,us[i]? = some d->J.go i H'/\∀xv H5,J.yld i H' xv H5->H5=H'/\Rep K mg ρ' H' d xv)/\∀i,us.length<=i->J.stop i H'
def wiS(X:Cx)(f:Src):TI:=fun σ H R=>∃ρ ev S us o S1,EnvR X.K X.mg ρ H ev σ/\StOk X.K X.mg ρ H S/\f ev S=some ((us,o),S1)/\∀J ρ1 H1,Ext ρ H ρ1 H1->StOk X.K X.mg ρ1 H1 S1->ztb X.K X.mg J us o ρ1 H1->(∀pins σ s,Inv X pins σ H1 s->us.length<=sizeLine)->R J H1
def zuo(X:Cx)(tg l:Expr)(f:Src):Prop:=PI X tg l (wiS X f)
def z1p(X X':Cx)(us:List D)(o:Option Nat)(cn:B)(g:E)(fre:Ev)(t:L2.St)(fp:List Addr)(tn:Nat->Heap->Prop)(Dl:Addr)(ρ1:List Addr)(H2:Hp)(ds:List D)(Sf:Sto)(m:Nat)(st:Shared):Prop :=
 ∃(i:Nat) (ρ':List Addr) (H':Hp) (ys:List V) (its:List Value) (acc rest:List D) (Si:Sto) (w:Option V),m=us.length-i/\i<=us.length/\Inv X' [] (w::t) H' st/\tn i st.heap/\(∀b∈fp,H' b=none)/\H' Dl=none/\st.heap.PlainList Dl (List.toArray its)/\Vals ys its /\
   Ext ρ1 H2 ρ' H'/\StOk X.K X.mg ρ' H' Si/\RepL X.K X.mg ρ' H' acc ys/\acc.length<=i/\zao us o cn g fre (us.drop i) Si=some (rest,Sf)/\ds=acc++rest
section
variable {X:Cx}{pins:zAO}{σ:L2.St}{H H2:Hp}{s s2:Shared}{scope:Scope}{x:Str}{N':List Str}{fr:List Nat}{fp:List Addr}{ρ ρ1:List Addr}{ds us:List D}{S S1 S2:Sto}{o:Option Nat}
def Fin(X:Cx)(s2:Shared)(H2:Hp)(fp:List Addr)(ρ1:List Addr)(ds:List D)(S2:Sto)(use:Option (Value->Sem Unit))(Q:zVP):Prop :=
 ∀(Dl C:Addr) (s4:Shared) (H':Hp) (ρ':List Addr) (mm:zMg) (ys:List V) (its:List Value) (nn:Nat),s2.heap.objs.size<=Dl->Dl<=C->Dl≠C->s4.heap.Ns C mm->H' C=none->Un (frs X.stack) fp H2 H' s2.heap s4.heap->HOk X.prog X.w H' s4.heap->s4.os=s2.os->AllBare s4.gens ->
   s4.heap.get? Dl=some { cls:=.type "list",data:=.seq (List.toArray its) nn }->H' Dl=none->Vals ys its->RepL X.K X.mg ρ' H' ds ys->ys.length<=sizeLine->Ext ρ1 H2 ρ' H'->StOk X.K X.mg ρ' H' S2->compPost (model X.prog X.w) X.A X.xe use Q (.ref Dl) C (.ok .next) s4
theorem zhz{elt l:Expr}{ifs:List Expr}{px pos:Pos}{g:E}{cn:B}{ev:Ev}{J:It}{it:Addr}{tn:Nat->Heap->Prop}{use:Option (Value->Sem Unit)}{Q:zVP}(c:CompOk X scope x N' fr)(hc:X.calm=true)
   (hif:∀C,FT (jx X (x::N') scope s2 H2 C fp) ifs cn) (helt:∀C,FE (jx X (x::N') scope s2 H2 C fp) elt g)
   (I2:Inv X pins σ H2 s2) (T:Turn X.prog X.w X.K (.Name x px) J fp it tn) (st2:tn 0 s2.heap) (f2:∀b∈fp,zm8 X pins H2 b) (hE1:EnvR X.K X.mg ρ1 H2 ev σ) (hS1:StOk X.K X.mg ρ1 H2 S1) (src:ztb X.K X.mg J us o ρ1 H2) (hz0:us.length<=sizeLine)
   (q2:zao us o cn g (fr.map (zg3 ev)) us S1=some (ds,S2)) (fin:Fin X s2 H2 fp ρ1 ds S2 use Q) :
   wpAny (model X.prog X.w) X.A (newList []) (fun acc s₃=>wpAny (model X.prog X.w) X.A (newFunctionEnv scope X.env.globals (zh1 X.env.cells scope.names []) [] X.env.qual none .none (some X.env)) (fun cenv s₄=>
       codeAny (model X.prog X.w) X.A (.compStart (.ListComp elt [⟨.Name x px,l,ifs,0⟩] scope pos) 0 (.ref it) acc { cenv with scope:=relabel scope X.env }) (compPost (model X.prog X.w) X.A X.xe use Q acc cenv.locals) s₄) X.xe s₃) X.xe s2:=by
 have hcell:∀y∈scope.names,y.2≠.cell:=fun y hy=>(c.chk y hy).1;refine qac (wpAny_newFunctionEnv hcell (by intro y hy;simp at hy) (fun h₁ hns₁ hsb₁=>?_) c.kind);dsimp only at hns₁ hsb₁ ⊢;generalize hH2:s2.heap.push { cls:=.type "list",dict:=none,data:=.seq ([]:List Value).toArray }=G2 at hns₁ hsb₁ ⊢;have hC:G2.objs.size=s2.heap.objs.size+1:=by rw[<-hH2,qbr]
 have hDC:s2.heap.objs.size≠G2.objs.size:=by rw[hC];exact z7b (qak _)
 have hCle:s2.heap.objs.size<=G2.objs.size:=by rw[hC];exact qb1 _
 have old:∀b o,s2.heap.get? b=some o->h₁.get? b=some o:=fun b o e=>hsb₁.extBut b o (by rw[hC];exact z7b (qag (z69 e))) (z6u _ (hH2▸z6u _ e));have hacc:h₁.PlainList s2.heap.objs.size #[]:=⟨_,hsb₁.extBut _ _ hDC (z6u _ (hH2▸z7j _ rfl))⟩
 generalize hDl:s2.heap.objs.size=Dl at hDC hCle hacc;generalize hCC:G2.objs.size=C at hDC hCle hns₁ hsb₁ hC ⊢;have hfl:∀b∈fp,b<Dl:=fun b hb=>by obtain⟨o,e,_⟩:=T.obj 0 _ st2 b hb;rw[<-hDl];exact z69 e
 have hHD:H2 Dl=none:=I2.hok.fresh (by rw[hDl];exact z6l _);have hDfs:Dl∉frs X.stack:=fun z=>by
   have z':=I2.stkFree Dl z;rcases z6n.mp (I2.stkSub Dl z)with e | e
   · have:=I2.lt;rw[hDl,<-e]at this;exact z8r _ this
   · exact I2.nofs (by rw[hDl];exact z6l _) e
 generalize hX':jx X (x::N') scope s2 H2 C fp=X';have I3:Inv X' [] (none::fr.map (zg2 σ)) H2 { s2 with heap:=h₁,toks:=s2.toks+([]:List (Str×Value)).length }:=hX'▸c.start I2 f2 (by rw[hDl];exact hfl) (by rw[hDl];exact hCle) old hns₁;have hEf:EnvR X.K X.mg ρ1 H2 (none::fr.map (zg3 ev)) (none::fr.map (zg2 σ)):=by
   refine⟨by simp,fun i d q=>?_⟩;cases i with
   |zero=>simp at q
   | succ i=>
     have q:(fr.map (zg3 ev))[i]? = some (some d):=by simpa using q
     rw[z72]at q;cases ej:fr[i]? with
     |none=>rw[ej]at q;cases q
     | some jj=>
       rw[ej]at q;have q:zg3 ev jj=some d:=by simpa using q
       have hv:ev[jj]? = some (some d):=by
         unfold zg3 at q;split at q
         · rename_i o ho;rw[ho,q]
         · cases q
       obtain⟨v,e1,r⟩:=hE1.at_ jj d hv;refine⟨v,?_,r⟩;show(fr.map (zg2 σ))[i]? = some (some v);rw[z72,ej];show some (zg2 σ jj)=_;unfold zg2;rw[e1]
 have eA:X'.A=X.A:=by rw[<-hX'];rfl
 have eP:X'.prog=X.prog:=by rw[<-hX'];rfl
 have eW:X'.w=X.w:=by rw[<-hX'];rfl
 have eK:X'.K=X.K:=by rw[<-hX'];rfl
 have eM:X'.mg=X.mg:=by rw[<-hX'];rfl
 have eEx:X'.ex=fp:=by rw[<-hX'];rfl
 have eS0:X'.s₀=s2:=by rw[<-hX'];rfl
 have eH0:X'.H₀=H2:=by rw[<-hX'];rfl
 have eFs:X'.fs=frs X.stack:=by rw[<-hX'];rfl
 have eL:X'.env.locals=C:=by rw[<-hX'];rfl
 have ePn:X'.pn=[]:=by rw[<-hX'];rfl
 have eEnv:X'.env=compEnvC scope (zh1 X.env.cells scope.names []) C X.env:=by rw[<-hX'];rfl
 have eCalm:X'.calm=true:=by rw[<-hX'];exact hc
 have eXe:X'.xe=fun _ _=>False:=by rw[<-hX'];rfl
 have pgx:PG X' (.Name x px) (zpt 0):=by rw[<-hX'];exact zfy c.nd rfl (.inl (lookup_relabel_local c.hx)) (.inr (lookup_relabel_local c.hx))
 have fel:FE X' elt g:=hX'▸helt C;have ftl:FT X' ifs cn:=hX'▸hif C;have cellLt:∀y a,X'.env.cells.lookup y=some a->a<Dl:=fun y a e=>by rw[eEnv]at e;obtain⟨v,q⟩:=I2.cell y a (zde (fun _ _ h=>by cases h) y a e);rw[<-hDl];exact q.lt
 have stat:∀{H':Hp}{pl:zAO},(∀b∈fp,H' b=none)->(∀p∈pl,∀b∈fp,p.1≠b)->∀b∈fp,zm8 X' pl H' b:=fun {H' pl} hn hp b hb=>
   ⟨hn b hb,by rw[eL];exact z7b (z6p (hfl b hb) hCle),by rw[eFs];intro z;rcases z6n.mp (I2.stkSub b z)with e | e;exact(f2 b hb).2.1 e;exact(f2 b hb).2.2.1 e,.inl (by rw[eEx];exact hb),fun y a e=>by
     rw[eEnv]at e;exact(f2 b hb).2.2.2.2.1 y a (zde (fun _ _ h=>by cases h) y a e),fun p hpp=>hp p (by rw[ePn]at hpp;simpa using hpp) b hb⟩
 have loop:∀s₃:Shared,s₃={ s2 with heap:=h₁,toks:=s2.toks+([]:List (Str×Value)).length } ->
     codeAny (model X.prog X.w) X.A (.compLoop (.ListComp elt [⟨.Name x px,l,ifs,0⟩] scope pos) 0 (.ref it) (.ref Dl) (compEnvC scope (zh1 X.env.cells scope.names []) C X.env))
       (compPost (model X.prog X.w) X.A X.xe use Q (.ref Dl) C) s₃:=by
   rintro s₃ rfl;refine codeAny_compLoop_tests (z1p X X' us o cn g (fr.map (zg3 ev)) (fr.map (zg2 σ)) fp tn Dl ρ1 H2 ds S2) ?_ (us.length-0)
     ⟨0,ρ1,H2,[],[],[],ds,S1,none,rfl,z7k _,I3,T.keep _ _ _ st2 (fun b hb o e=>old b o e),fun b hb=>(f2 b hb).1,hHD,hacc,.nil,Ext.refl _ _,hS1,RepL.nil,z6l _,q2,rfl⟩
   intro m st hI;generalize notedBy (model X.prog X.w) X.A (compEnvC scope (zh1 X.env.cells scope.names []) C X.env) (fun e s'=>compPost (model X.prog X.w) X.A X.xe use Q (.ref Dl) C (.error e) s')=EE;obtain⟨i,ρ',H',ys,its,acc,rest,Si,w,rfl,hi,I',tni,hfp',hD',⟨nn,hpl⟩,rv,E',hSi,ra,hal,hcl,hds⟩:=hI;have Ip:Inv X' [(Dl,{ cls:=.type "list",data:=.seq (List.toArray its) nn })] (w::fr.map (zg2 σ)) H' st:=I'.pins_of fun p hp=>by rw[z6q.mp hp];exact⟨hpl,hD',by rw[eL];exact hDC,by rw[eFs];exact hDfs,fun v z=>by cases z⟩
   have hnp:∀p∈[(Dl,({ cls:=.type "list",data:=.seq (List.toArray its) nn }:Obj))],∀b∈fp,p.1≠b:=fun p hp b hb=>by rw[z6q.mp hp];exact z9m (z7b (hfl b hb))
   have gk:=zsu hcl;obtain⟨srcI,srcE⟩:=src ρ' H' Si E' hSi gk;by_cases hlt:i<us.length
   · rw[z70 hlt,zmp gk]at hcl;obtain⟨⟨ok,Sc⟩,qc,hcl⟩:=zy hcl;obtain⟨go,yl⟩:=srcI i _ (z6s hlt);have ti:=T.item X' eP eW eK eCalm i [(Dl,{ cls:=.type "list",data:=.seq (List.toArray its) nn })] st (w::fr.map (zg2 σ)) H' EE Ip (stat hfp' hnp) tni go;rw[eA]at ti;refine thn ti fun r s4 ⟨u,hr,h4⟩=>?_;subst hr;dsimp only;show wpAny (model X.prog X.w) X.A (letOwnedTupleGo (.Name x px) (.ref it) u >>= fun _=>assign (.Name x px) (compEnvC scope (zh1 X.env.cells scope.names []) C X.env) u) _ _ _;refine z6m (thn h4 fun _ s5 ⟨xv,H5,I5,r5,y5,tn5,fp5⟩=>?_);obtain⟨eH5,rx0⟩:=yl _ _ y5;subst eH5;have I5':=I5.pinned (stat fp5 hnp) (T.obj _ _ tn5);have as5:=pgx _ s5 _ H5 _ u (fun σ' H'=>H'=H5/\σ'=(w::fr.map (zg2 σ)).set 0 (some xv)) I5' r5 ⟨rfl,rfl⟩;rw[eP,eW,eA,eEnv,eXe]at as5;refine z8o as5 (fun _ s6 ⟨σ6,H6,I6,eH6,eσ6⟩=>?_) (fun _ _ z=>False.elim z);subst eH6 eσ6;have hE6:EnvR X.K X.mg ρ' H6 (some us[i]::fr.map (zg3 ev)) (some xv::fr.map (zg2 σ)):=(hEf.mono E').set (i:=0) rx0;have tc6:=z0i ftl (Q:=fun b H7=>b=ok/\∃ρ7,Ext ρ' H6 ρ7 H7/\StOk X.K X.mg ρ7 H7 Sc) I6 ⟨ρ',_,Si,ok,Sc,by rw[eK,eM];exact hE6,by rw[eK,eM];exact hSi,qc,fun ρ7 H7 E7 hS7=>⟨rfl,ρ7,E7,by rw[eK,eM]at hS7;exact hS7⟩⟩;rw[eP,eW,eA,eEnv,eXe]at tc6;refine z8o tc6 (fun ok' s6 ⟨H6,I6,eok,ρ6,E6,hS6⟩=>?_) (fun _ _ z=>False.elim z);subst eok;have hE6:=hE6.mono E6;have hpin6:=I6.pin (Dl,{ cls:=.type "list",data:=.seq (List.toArray its) nn }) (z6x _ (z7y _ (z6q.mpr rfl)));cases ok' with
     | false=>
       have hcl:zao us o cn g (fr.map (zg3 ev)) (us.drop (i+1)) Sc=some (rest,S2):=hcl;rw[z7a z73];have I8:Inv X' [] (some xv::fr.map (zg2 σ)) H6 s6:=I6.pins_of fun p hp=>by cases hp
       have tn8:tn (i+1) s6.heap:=T.keep _ _ _ tn5 fun b hb o e=>(I6.pin (b,o) (z6x _ (z6x _ (yd hb e)))).1;refine⟨us.length-(i+1),by omega,i+1,ρ6,H6,ys,its,acc,rest,Sc,_,rfl,by omega,I8,tn8,fun b hb=>?_,hpin6.2.1,⟨nn,hpin6.1⟩,rv,E'.trans E6,hS6,ra.mono E6,by omega,hcl,hds⟩;obtain⟨o,e,dd⟩:=T.obj _ _ tn5 b hb;exact(I6.pin (b,o) (z6x _ (z6x _ (yd hb e)))).2.1
     | true=>
       rw[z64 rfl];have hcl:(g (some us[i]::fr.map (zg3 ev)) Sc).bind (fun q=>(zao us o cn g (fr.map (zg3 ev)) (us.drop (i+1)) q.2).bind fun r=>some (q.1::r.1,r.2))=some (rest,S2):=hcl;obtain⟨⟨yv,Sn⟩,qe,hcl⟩:=zy hcl;obtain⟨⟨rest',Se⟩,qr,hcl⟩:=zy hcl;cases hcl;have el6:=fel _ s6 _ H6 (fun v H7=>∃ρ7,Ext ρ6 H6 ρ7 H7/\StOk X.K X.mg ρ7 H7 Sn/\Rep X.K X.mg ρ7 H7 yv v) I6 ⟨ρ6,_,Sc,yv,Sn,by rw[eK,eM];exact hE6,by rw[eK,eM];exact hS6,qe,fun v ρ7 H7 E7 hS7 r7=>⟨ρ7,E7,by rw[eK,eM]at hS7;exact hS7,by rw[eK,eM]at r7;exact r7⟩⟩;rw[eP,eW,eA,eEnv,eXe]at el6;refine z8o el6 (fun u7 s7 ⟨v7,H7,I7,r7,ρ7,E7,hS7,rp7⟩=>?_) (fun _ _ z=>False.elim z);have hpin:=I7.pin (Dl,{ cls:=.type "list",data:=.seq (List.toArray its) nn }) (z6x _ (z7y _ (z6q.mpr rfl)));have hvl:=rv.length;have hral:=ra.length;refine wpAny_list_append_plain ⟨nn,hpin.1⟩ (fun h8 hp8 hsb8=>?_) (by rw[z6v];omega);have I8:Inv X' [] (some xv::fr.map (zg2 σ)) H7 { s7 with heap:=h8 }:=by
         have I7':Inv X' [] (some xv::fr.map (zg2 σ)) H7 s7:=I7.pins_of fun p hp=>by cases hp
         exact I7'.turned (it:=Dl) (t':=s7.toks) (fun b o hb e=>(hsb8.2 b hb).trans e) hpin.2.1 (by rw[eL];exact hDC) (.inr (by rw[eS0,hDl];exact z6l _)) (fun y a e=>z7b (cellLt y a e)) (fun p hp=>by rw[ePn]at hp;cases hp)
       have tn8:tn (i+1) h8:=T.keep _ _ _ tn5 fun b hb o e=>by have:=(I7.pin (b,o) (z6x _ (z6x _ (yd hb e)))).1;exact(hsb8.2 b (z7b (hfl b hb))).trans this
       refine⟨us.length-(i+1),by omega,i+1,ρ7,H7,ys++[v7],its++[u7],acc++[yv],rest',Sn,_,rfl,by omega,I8,tn8,fun b hb=>?_,hpin.2.1,?_,rv.append (.cons r7 .nil),(E'.trans E6).trans E7,hS7,((ra.mono E6).mono E7).append (RepL.cons rp7 RepL.nil),by simp;omega,qr,by simp[hds]⟩
       · obtain⟨o,e,dd⟩:=T.obj _ _ tn5 b hb;exact(I7.pin (b,o) (z6x _ (z6x _ (yd hb e)))).2.1
       · rw[show(its++[u7]).toArray=its.toArray.push u7 by simp];exact hp8
   · have ei:i=us.length:=by omega
     have td:=T.done X' eP eW eK eCalm i [(Dl,{ cls:=.type "list",data:=.seq (List.toArray its) nn })] st (w::fr.map (zg2 σ)) H' EE Ip (stat hfp' hnp) tni (srcE i (by omega));rw[eA]at td;refine thn td fun r s4 ⟨hr,I4⟩=>?_;subst hr;dsimp only;rw[z95 (by omega),zqi gk]at hcl;cases hcl;rw[z7h]at hds;subst hds;obtain⟨mm,hns,_⟩:=id I4.loc;rw[eL]at hns;have hpin:=I4.pin (Dl,{ cls:=.type "list",data:=.seq (List.toArray its) nn }) (z6x _ (z6q.mpr rfl));have hHC:H' C=none:=by have:=I4.free;rw[eL]at this;exact this
     have bs:=I4.base;rw[eFs,eEx,eH0,eS0]at bs;have hok4:=I4.hok;rw[eP,eW]at hok4;have os4:=I4.os;rw[eS0]at os4;have hvl:=rv.length;have hral:=ra.length;exact fin Dl C s4 H' ρ' mm ys its nn (by rw[hDl];exact z6l _) hCle hDC hns hHC bs hok4 os4 I4.bare hpin.1 hD' rv ra (by omega) E' hSi
 exact codeAny_compStart_list (loop _ rfl) (T.self X.A 0 _ _ _ (T.keep _ _ _ st2 (fun b hb o e=>old b o e)) (loop _ rfl))
theorem zwx(I2:Inv X pins σ H2 s2)(f2:∀b∈fp,zm8 X pins H2 b){Q:VK}(kk:∀l ys ρ' H',Ext ρ1 H2 ρ' H'->StOk X.K X.mg ρ' H' S2->H' l=none->RepL X.K X.mg ρ' H' ds ys->Q (.ref l) (upd H' l (.lst ys))):Fin X s2 H2 fp ρ1 ds S2 none (EP X pins σ Q):=by
 intro Dl C s4 H' ρ' mm ys its nn hDl2 hCle hDC hns hHC bs hok4 os4 bare4 hpin hD' rv ra hz E' hSi;refine⟨mm,hns,fun h' hs'=>?_⟩;have nC:∀b o,s2.heap.get? b=some o->b≠C:=fun b o e z=>by have:=z69 e;rw[z]at this;exact z8r _ (z6p this (z67 hDl2 hCle))
 have un:Un (frs X.stack) fp H2 H' s2.heap h' :=
   ⟨fun b o e n h1 h2=>(hs'.2 b (nC b o e)).trans (bs.keep b o e n h1 h2),fun b o e n h1 h2=>by
     obtain⟨sl,q⟩:=bs.slot b o e n h1 h2;exact⟨sl,(hs'.2 b (nC b o e)).trans q⟩,bs.free,fun b o e h2=>by
     obtain⟨o',q⟩:=bs.there b o e h2;exact⟨o',(hs'.2 b (nC b o e)).trans q⟩,bs.tups,bs.frzs,bs.tbls⟩
 have I9:Inv X pins σ H' { s4 with heap:=h' }:=I2.call' (s':={ s4 with heap:=h' }) os4 un (ziw hok4 hs' hHC) bare4 fun b hb=>by obtain⟨_,a1,a2,a3,a4,a5⟩:=f2 b hb;exact⟨a3,a1,a4,a5⟩
 have I10:Inv X pins σ (upd H' Dl (.lst ys)) { s4 with heap:=h' }:=Inv.track (its:=its) (n:=nn) I9 hD' ((hs'.2 Dl hDC).trans hpin) rv hz (.inr (z67 I2.sz hDl2)) (z9m (z7b (z6p I2.lt hDl2)))
   (fun y a e=>by
     obtain⟨v,q⟩:=I2.cell y a e;exact z7b (z6p q.lt hDl2)) (fun q hq=>z7b (z6p (z69 (I2.pin q hq).1) hDl2))
 exact⟨.ref Dl,upd H' Dl (.lst ys),I10,rfl,kk Dl ys ρ' H' E' hSi hD' ra⟩
theorem zwy{iy:Nat}{yy:Str}{py:Pos}{EN:Ends}(I2:Inv X pins σ H2 s2)(f2:∀b∈fp,zm8 X pins H2 b)(hN:X.N.Nodup)(hiy:X.N[iy]? = some yy)(hyy:Loc X.env.scope yy)(hfy:X.fn yy=true\/X.env.scope.names.lookup yy=some .local)
   (kk:∀l ys ρ' H',Ext ρ1 H2 ρ' H'->StOk X.K X.mg ρ' H' S2->H' l=none->RepL X.K X.mg ρ' H' ds ys->EN.nx (σ.set iy (some (.ref l))) (upd H' l (.lst ys))):Fin X s2 H2 fp ρ1 ds S2 (some (assign (.Name yy py) X.env)) (fun _ s'=>SP X pins EN .next s'):=by
 intro Dl C s4 H' ρ' mm ys its nn hDl2 hCle hDC hns hHC bs hok4 os4 bare4 hpin hD' rv ra hz E' hSi;have I9:Inv X pins σ H' s4:=I2.call' (s':=s4) os4 bs hok4 bare4 fun b hb=>by obtain⟨_,a1,a2,a3,a4,a5⟩:=f2 b hb;exact⟨a3,a1,a4,a5⟩
 have cl2:∀y a,X.env.cells.lookup y=some a->a<Dl:=fun y a e=>by obtain⟨v,q⟩:=I2.cell y a e;exact z6p q.lt hDl2
 have pl2:∀q∈X.pn++pins,q.1<Dl:=fun q hq=>z6p (z69 (I2.pin q hq).1) hDl2;have ll2:X.env.locals<Dl:=z6p I2.lt hDl2;have I10:Inv X pins σ (upd H' Dl (.lst ys)) s4:=Inv.track (its:=its) (n:=nn) I9 hD' hpin rv hz (.inr (z67 I2.sz hDl2)) (z9m (z7b ll2))
   (fun y a e=>z7b (cl2 y a e)) (fun q hq=>z7b (pl2 q hq))
 refine wpAny_assign_Name (zg9 I10 hN hiy hyy (v:=.ref Dl) rfl (fun s5 I5 ⟨aa,sb,ha⟩=>?_) hfy);have hCa:C≠aa:=by
   rcases ha with rfl | ha
   · exact z9m (z7b (z6p ll2 hCle))
   · exact z9m (z7b (z6p (cl2 _ _ ha) hCle))
 refine⟨mm,hns.sameBut sb hCa,fun h' hs'=>?_⟩;have hnC:upd H' Dl (.lst ys) C=none:=by rw[qd (z9m hDC)];exact hHC
 have I6:=I5.turned (it:=C) (t':=s5.toks) (h':=h') (fun b o hb e=>(hs'.2 b hb).trans e) hnC (z9m (z7b (z6p ll2 hCle))) (.inr (z67 I2.sz (z67 hDl2 hCle)))
   (fun y a e=>z7b (z6p (cl2 y a e) hCle)) (fun q hq=>z7b (z6p (pl2 q hq) hCle))
 exact⟨_,_,I6,kk Dl ys ρ' H' E' hSi hD' ra⟩
end
def zih(f:E):Src:=fun ev S=>(f ev S).bind fun p=>match p.1 with
 | .lst us=>some ((us,none),p.2)
 | .tup us=>some ((us,none),p.2)
 | .obj a=>(match p.2[a]? with
   |some (.lst us)=>some ((us,some a),p.2)
   |_=>none)
 |_=>none
def zq0(f:E):Src:=fun ev S=>(f ev S).bind fun p=>match p.1 with
 | .int j=>if -(2^62)<=j/\j<2^62/\j<=(sizeLine:Int)then some ((jc 0 j.toNat,none),p.2)else none
 |_=>none
section
variable {X:Cx}{tg l:Expr}{f:E}
theorem zis(hl:FE X l f):zuo X tg l (zih f):=by
 intro pins s σ H R I h;obtain⟨ρ,ev,S,us,o,S1,hE,hS,hf,k⟩:=h;obtain⟨⟨y,S2⟩,q1,hf⟩:=zy hf;cases y with
 | lst us'=>
   cases hf;refine zfx hl pins s σ H R I ⟨ρ,ev,S,.lst us,S2,hE,hS,q1,fun v ρ1 H1 E1 hS1 r1=>?_⟩;obtain⟨p,vs,rfl,t1,rL⟩:=r1.refL;refine⟨p,rfl,⟨vs,t1.sq⟩,k _ ρ1 H1 E1 hS1 (fun ρ' H' S' E' hS' _=>⟨fun i d hd=>?_,fun i hi=>⟨vs,(t1.mono E').sq,by rw[<-rL.length];exact hi⟩⟩) fun _ _ _ J=>by obtain⟨_,_,_,z⟩:=J.list t1.sq;rw[rL.length];exact z⟩;obtain⟨xv,ex,rx⟩:=(rL.mono E').get hd;exact⟨⟨vs,xv,(t1.mono E').sq,ex⟩,fun u H5 ⟨e,y⟩=>⟨e,by have:=y vs (t1.mono E').sq;rw[ex]at this;cases this;exact rx⟩⟩
 | tup us'=>
   cases hf;refine zyt hl pins s σ H R I ⟨ρ,ev,S,.tup us,S2,hE,hS,q1,fun v ρ1 H1 E1 hS1 r1=>?_⟩;obtain⟨p,vs,rfl,t1,rL⟩:=r1.refT;refine⟨p,rfl,⟨vs,t1.sq⟩,k _ ρ1 H1 E1 hS1 (fun ρ' H' S' E' hS' _=>⟨fun i d hd=>?_,fun i hi=>⟨vs,(t1.mono E').sq,by rw[<-rL.length];exact hi⟩⟩) fun _ _ _ J=>by obtain⟨_,_,_,z⟩:=J.tuple t1.sq;rw[rL.length];exact z⟩;obtain⟨xv,ex,rx⟩:=(rL.mono E').get hd;exact⟨⟨vs,xv,(t1.mono E').sq,ex⟩,fun u H5 ⟨e,y⟩=>⟨e,by have:=y vs (t1.mono E').sq;rw[ex]at this;cases this;exact rx⟩⟩
 | obj a=>
   dsimp only at hf;split at hf
   · rename_i us' hau;cases hf;refine zfx hl pins s σ H R I ⟨ρ,ev,S,.obj a,S1,hE,hS,q1,fun v ρ1 H1 E1 hS1 r1=>?_⟩;unfold Rep at r1;obtain⟨p,rfl,hp⟩:=r1;obtain⟨vs,h1,r⟩:=hS1.ob _ _ p hau hp;refine⟨p,rfl,⟨vs,SqL.of h1⟩,k _ ρ1 H1 E1 hS1 (fun ρ' H' S' E' hS' ok=>?_) fun _ _ _ J=>by obtain⟨_,_,_,z⟩:=J.list (SqL.of h1);rw[r.length];exact z⟩;obtain⟨vs',h1',r'⟩:=hS'.ob _ _ p ok (E'.pre _ _ hp);refine⟨fun i d hd=>?_,fun i hi=>⟨vs',SqL.of h1',by rw[<-r'.length];exact hi⟩⟩;obtain⟨xv,ex,rx⟩:=r'.get hd;exact⟨⟨vs',xv,SqL.of h1',ex⟩,fun u H5 ⟨e,y⟩=>⟨e,by have:=y vs' (SqL.of h1');rw[ex]at this;cases this;exact rx⟩⟩
   · cases hf
 |_=>cases hf
theorem zx0{p2 p3:Pos}(hm:X.mg "range"=none)(hl:FE X l f)(hg:Gl X "range":=by rfl)(hst:starEach [l] X.env=[(false,eval l X.env)]:=by exact qb rfl):zuo X tg (.Call (.Name "range" p2) [l] [] p3) (zq0 f):=by
 intro pins s σ H R I h;obtain⟨ρ,ev,S,us,o,S1,hE,hS,hf,k⟩:=h;obtain⟨⟨y,S2⟩,q1,hf⟩:=zy hf;cases y with
 | int j=>
   dsimp only at hf;split at hf
   · rename_i hj;cases hf;refine zhf hg hm (zb hl ze hst) hst pins s σ H R I ⟨ρ,ev,S,[.int j],S1,hE,hS,by simp only[aC,aN,q1,Option.bind_some],fun vs ρ1 H1 E1 hS1 r1=>?_⟩;unfold RepL at r1;obtain⟨v,r,rfl,r2,r3⟩:=r1;unfold RepL at r3;subst r3;have hlen:(jc 0 j.toNat).length=j.toNat:=by simp[jc]
     refine⟨j,by rw[show v=.int j from r2],hj.1,hj.2.1,k _ ρ1 H1 E1 hS1 (fun ρ' H' S' E' hS' _=>⟨fun i d hd=>?_,fun i hi=>by rw[hlen]at hi;exact hi⟩) fun _ _ _ _=>by rw[hlen];omega⟩;have hi:i<j.toNat:=by rw[<-hlen];exact(z6o.mp hd).1
     refine⟨hi,fun xv H5 ⟨e,y⟩=>⟨e,?_⟩⟩;have:d=.int (0+(i:Int)):=by simp only[jc,z72,List.getElem?_range hi,Option.map_some,Option.some.injEq]at hd;exact hd.symm
     subst this;rw[y];rfl
   · cases hf
 |_=>cases hf
end
open Classical in
def eGd(p:Ev->Prop)(f:E):E:=fun ev S=>if p ev then f ev S else none
theorem zlg{p:Ev->Prop}{f:E}{ev:Ev}{S:Sto}{r:D×Sto}(h:eGd p f ev S=some r):p ev/\f ev S=some r:=by
 unfold eGd at h;split at h
 · rename_i e;exact⟨e,h⟩
 · cases h
theorem zue{p:Ev->Prop}{f:E}{ev:Ev}{S:Sto}(h:p ev):eGd p f ev S=f ev S:=by unfold eGd;rw[z64 h]
def xc(fr:List Nat)(f:Src)(c:B)(g:E):E:=fun ev S=>(f ev S).bind fun p=>(zao p.1.1 p.1.2 c g (fr.map (zg3 ev)) p.1.1 p.2).map fun q=>(.lst q.1,q.2)
def zat(fr:List Nat)(f:Src)(c:B)(g:E):E:=fun ev S=>(f ev S).bind fun p=>(zao p.1.1 p.1.2 c g (fr.map (zg3 ev)) p.1.1 p.2).map fun q=>(.obj q.2.length,q.2++[.lst q.1])
section
variable {X:Cx}{scope:Scope}{x:Str}{N':List Str}{fr:List Nat}{elt l:Expr}{ifs:List Expr}{px pos py spos:Pos}{yy:Str}{f:Src}{g:E}{cn:B}{p:Ev->Prop}{iy:Nat}
def Blk(X:Cx)(x:Str)(N':List Str)(scope:Scope)(p:Ev->Prop)(P:Cx->Prop):Prop:=∀{pins σ H s ρ ev fp C},Inv X pins σ H s->EnvR X.K X.mg ρ H ev σ->p ev->(∀b∈fp,zm8 X pins H b)->P (jx X (x::N') scope s H C fp)
theorem ztp{K:Frag}{mg:zMg}{ρ:List Addr}{H:Hp}{S:Sto}{l:Addr}{ys:List V}{ds:List D}(hS:StOk K mg ρ H S)(hn:H l=none)(ra:RepL K mg ρ H ds ys):Ext ρ H (ρ++[l]) (upd H l (.lst ys))/\StOk K mg (ρ++[l]) (upd H l (.lst ys)) (S++[.lst ds])/\Rep K mg (ρ++[l]) (upd H l (.lst ys)) (.obj S.length) (.ref l):=by have ea:=za7 hS (.lst ys) hn;refine⟨ea,hS.add hn ⟨ys,qf,ra.mono ea⟩,?_⟩;unfold Rep;refine⟨l,rfl,?_⟩;rw[z6y (by rw[hS.len]<;>exact z6l _),hS.len];simp
theorem z0u{P:Cx->Prop}(c:CompOk X scope x N' fr)(src:zuo X (.Name x px) l f)(hb:Blk X x N' scope p P)(hif:∀s₀ H₀ C ex,P (jx X (x::N') scope s₀ H₀ C ex)->FT (jx X (x::N') scope s₀ H₀ C ex) ifs cn)(helt:∀s₀ H₀ C ex,P (jx X (x::N') scope s₀ H₀ C ex)->FE (jx X (x::N') scope s₀ H₀ C ex) elt g)
   (hc:X.calm=true:=by rfl) (hs:∀v,foldedSetIterable l X.env v=pure v:=by intro _;rfl) (new:Bool):FE X (.ListComp elt [⟨.Name x px,l,ifs,0⟩] scope pos) (eGd p (if new then zat fr f cn g else xc fr f cn g)):=by
 intro pins s σ H Q I h;obtain⟨ρ,ev,S,d,S',hE,hS,hf,k⟩:=h;obtain⟨hp,hf⟩:=zlg hf;obtain⟨⟨us,o⟩,S1,ds,S2,q1,q2,hd⟩:∃(w:List D×Option Nat) (S1:Sto) (ds:List D) (S2:Sto),f ev S=some (w,S1)/\zao w.1 w.2 cn g (fr.map (zg3 ev)) w.1 S1=some (ds,S2)/\(if new then (d,S')=(.obj S2.length,S2++[.lst ds])else (d,S')=(.lst ds,S2)):=by
   cases new
   · obtain⟨⟨w,S1⟩,q1,hf⟩:=zy hf;obtain⟨⟨ds,S2⟩,q2,hf⟩:=zav hf;exact⟨w,S1,ds,S2,q1,q2,hf.symm⟩
   · obtain⟨⟨w,S1⟩,q1,hf⟩:=zy hf;obtain⟨⟨ds,S2⟩,q2,hf⟩:=zav hf;exact⟨w,S1,ds,S2,q1,q2,hf.symm⟩
 rw[eval_ListComp];refine wpAny_comprehension_free (use:=none) rfl hs (zci fun p hp e=>I.ok.has p.1 (.inl ((c.chk p hp).2.1 e))) c.kind (fun y hy e=>(c.chk y hy).2.2 e) ?_;refine thn (src pins s σ H (fun J H1=>∃ρ1,Ext ρ H ρ1 H1/\StOk X.K X.mg ρ1 H1 S1/\ztb X.K X.mg J us o ρ1 H1/\(∀pins σ s,Inv X pins σ H1 s->us.length<=sizeLine)) I ⟨ρ,ev,S,us,o,S1,hE,hS,q1,fun J ρ1 H1 E1 hS1 sk hz=>⟨ρ1,E1,hS1,sk,hz⟩⟩) fun v s1 h1=>thn h1 fun itv s2 h2=>?_;obtain⟨it,fp,tn,J,H2,e,I2,T,st2,f2,ρ1,E1,hS1,sk,hz⟩:=h2;subst e;have hE1:=hE.mono E1;refine zhz c hc (fun C=>hif _ _ _ _ (hb I2 hE1 hp f2)) (fun C=>helt _ _ _ _ (hb I2 hE1 hp f2)) I2 T st2 f2 hE1 hS1 sk (hz _ _ _ I2) q2 (zwx I2 f2 fun l ys ρ' H' E' hS' hn ra=>?_);cases new
 · cases hd;exact k _ ρ' _ (E1.trans (E'.trans (ji hS' _ hn))) (hS'.new _ hn) (Rep.lst (s:=hS') hn ra)
 · cases hd;obtain⟨ea,sa,rr⟩:=ztp hS' hn ra;exact k _ _ _ (E1.trans (E'.trans ea)) sa rr
theorem z0v{P:Cx->Prop}(new:Bool)(c:CompOk X scope x N' fr)(src:zuo X (.Name x px) l f)(hb:Blk X x N' scope p P)(hif:∀s₀ H₀ C ex,P (jx X (x::N') scope s₀ H₀ C ex)->FT (jx X (x::N') scope s₀ H₀ C ex) ifs cn)(helt:∀s₀ H₀ C ex,P (jx X (x::N') scope s₀ H₀ C ex)->FE (jx X (x::N') scope s₀ H₀ C ex) elt g)(hN:X.N.Nodup)
   (hsw:swapsWith (.ListComp elt [⟨.Name x px,l,ifs,0⟩] scope pos) (some (.Name yy py)) spos.line X.env=pure true:=by rfl)
   (hiy:X.N[iy]? = some yy:=by rfl) (hyy:Loc X.env.scope yy:=by first | exact Or.inl rfl | exact Or.inr rfl) (hfy:X.fn yy=true\/X.env.scope.names.lookup yy=some .local:=by first | exact .inl rfl | exact .inr rfl | assumption)
   (hc:X.calm=true:=by rfl) (hs:∀v,foldedSetIterable l X.env v=pure v:=by intro _;rfl) :
   FS X (.Assign [.Name yy py] (.ListComp elt [⟨.Name x px,l,ifs,0⟩] scope pos) spos) (qp iy (eGd p (if new then zat fr f cn g else xc fr f cn g))):=by
 intro pins s σ H EN I h;obtain⟨ρ,ev,S,oo,S',hE,hS,hf,k⟩:=h;obtain⟨⟨d,SS⟩,hf1,hf0⟩:=zav hf;clear hf;cases hf0;obtain⟨hp,hf⟩:=zlg hf1;clear hf1;obtain⟨⟨us,o⟩,S1,ds,S2,q1,q2,hd⟩:∃(w:List D×Option Nat) (S1:Sto) (ds:List D) (S2:Sto),f ev S=some (w,S1)/\zao w.1 w.2 cn g (fr.map (zg3 ev)) w.1 S1=some (ds,S2)/\(if new then (d,SS)=(.obj S2.length,S2++[.lst ds])else (d,SS)=(.lst ds,S2)):=by
   cases new
   · obtain⟨⟨w,S1⟩,q1,hf⟩:=zy hf;obtain⟨⟨ds,S2⟩,q2,hf⟩:=zav hf;exact⟨w,S1,ds,S2,q1,q2,hf.symm⟩
   · obtain⟨⟨w,S1⟩,q1,hf⟩:=zy hf;obtain⟨⟨ds,S2⟩,q2,hf⟩:=zav hf;exact⟨w,S1,ds,S2,q1,q2,hf.symm⟩
 rw[exec_Assign_Name_used _ _ _ _ hsw];refine z6m (wpAny_standAt (z6m ?_));show wpAny _ X.A (do let _ <-comprehension (.ListComp elt [⟨.Name x px,l,ifs,0⟩] scope pos) scope X.env _ (newList []) false (eval l X.env) (some (assign (.Name yy py) X.env))) _ _ s;refine z6m (z8o (wpAny_comprehension_free (use:=some (assign (.Name yy py) X.env)) (Q:=fun _ s'=>SP X pins EN .next s') rfl hs (zci fun p hp e=>I.ok.has p.1 (.inl ((c.chk p hp).2.1 e))) c.kind (fun y hy e=>(c.chk y hy).2.2 e) ?_) (fun _ s' hq=>z7g (z7g hq)) fun _ _ e=>e);refine thn (src pins s σ H (fun J H1=>∃ρ1,Ext ρ H ρ1 H1/\StOk X.K X.mg ρ1 H1 S1/\ztb X.K X.mg J us o ρ1 H1/\(∀pins σ s,Inv X pins σ H1 s->us.length<=sizeLine)) I ⟨ρ,ev,S,us,o,S1,hE,hS,q1,fun J ρ1 H1 E1 hS1 sk hz=>⟨ρ1,E1,hS1,sk,hz⟩⟩) fun v s1 h1=>thn h1 fun itv s2 h2=>?_;obtain⟨it,fp,tn,J,H2,e,I2,T,st2,f2,ρ1,E1,hS1,sk,hz⟩:=h2;subst e;have hE1:=hE.mono E1;refine zhz c hc (fun C=>hif _ _ _ _ (hb I2 hE1 hp f2)) (fun C=>helt _ _ _ _ (hb I2 hE1 hp f2)) I2 T st2 f2 hE1 hS1 sk (hz _ _ _ I2) q2 (zwy I2 f2 hN hiy hyy hfy fun l ys ρ' H' E' hS' hn ra=>?_);cases new
 · cases hd;have ext:=E1.trans (E'.trans (ji hS' (.lst ys) hn));exact k _ ρ' _ ext (hS'.new _ hn) ((hE.mono ext).set (Rep.lst (s:=hS') hn ra) iy)
 · cases hd;obtain⟨ea,sa,rr⟩:=ztp hS' hn ra;have ext:=E1.trans (E'.trans ea);exact k _ _ _ ext sa ((hE.mono ext).set rr iy)
end
section
variable {X:Cx}{scope:Scope}{x:Str}{N':List Str}{fr:List Nat}{elt l:Expr}{ifs:List Expr}{px pos py spos:Pos}{yy:Str}{f:Src}{g:E}{cn:B}{iy:Nat}
theorem z0t{e:Expr}{f f':E}(h:FE X e f)(m:∀ev S r,f' ev S=some r->f ev S=some r):FE X e f':=fun pins s σ H Q I ⟨ρ,ev,S,d,S',hE,hS,hf,k⟩=>h pins s σ H Q I ⟨ρ,ev,S,d,S',hE,hS,m _ _ _ hf,k⟩
theorem z0j{st:Stmt}{f f':E}(h:FS X st (qp iy f))(m:∀ev S r,f' ev S=some r->f ev S=some r):FS X st (qp iy f'):=fun pins s σ H Q I ⟨ρ,ev,S,d,S',hE,hS,hf,k⟩=>h pins s σ H Q I ⟨ρ,ev,S,d,S',hE,hS,by
 obtain⟨r,h1,h2⟩:=zav hf;unfold qp;rw[m _ _ _ h1];exact z8y some h2,k⟩
theorem z3o(new:Bool)(c:CompOk X scope x N' fr)(src:zuo X (.Name x px) l f)(hif:∀s₀ H₀ C ex,FT (jx X (x::N') scope s₀ H₀ C ex) ifs cn)(helt:∀s₀ H₀ C ex,FE (jx X (x::N') scope s₀ H₀ C ex) elt g)
   (hc:X.calm=true:=by rfl) (hs:∀v,foldedSetIterable l X.env v=pure v:=by intro _;rfl):FE X (.ListComp elt [⟨.Name x px,l,ifs,0⟩] scope pos) (if new then zat fr f cn g else xc fr f cn g) :=
 z0t (z0u (p:=fun _=>True) (P:=fun _=>True) c src (fun _ _ _ _=>trivial) (fun _ _ _ _ _=>hif _ _ _ _) (fun _ _ _ _ _=>helt _ _ _ _) hc hs new) fun _ _ _ h=>(zue trivial).trans h
theorem zjh(c:CompOk X scope x N' fr)(src:zuo X (.Name x px) l f)(hif:∀s₀ H₀ C ex,FT (jx X (x::N') scope s₀ H₀ C ex) ifs cn)(helt:∀s₀ H₀ C ex,FE (jx X (x::N') scope s₀ H₀ C ex) elt g)
   (hc:X.calm=true:=by rfl) (hs:∀v,foldedSetIterable l X.env v=pure v:=by intro _;rfl):FE X (.ListComp elt [⟨.Name x px,l,ifs,0⟩] scope pos) (xc fr f cn g):=z3o false c src hif helt hc hs
theorem z3i(new:Bool)(c:CompOk X scope x N' fr)(src:zuo X (.Name x px) l f)(hif:∀s₀ H₀ C ex,FT (jx X (x::N') scope s₀ H₀ C ex) ifs cn)(helt:∀s₀ H₀ C ex,FE (jx X (x::N') scope s₀ H₀ C ex) elt g)(hN:X.N.Nodup)
   (hsw:swapsWith (.ListComp elt [⟨.Name x px,l,ifs,0⟩] scope pos) (some (.Name yy py)) spos.line X.env=pure true:=by rfl)
   (hiy:X.N[iy]? = some yy:=by rfl) (hyy:Loc X.env.scope yy:=by first | exact Or.inl rfl | exact Or.inr rfl) (hfy:X.fn yy=true\/X.env.scope.names.lookup yy=some .local:=by first | exact .inl rfl | exact .inr rfl | assumption)
   (hc:X.calm=true:=by rfl) (hs:∀v,foldedSetIterable l X.env v=pure v:=by intro _;rfl):FS X (.Assign [.Name yy py] (.ListComp elt [⟨.Name x px,l,ifs,0⟩] scope pos) spos) (qp iy (if new then zat fr f cn g else xc fr f cn g)) :=
 z0j (z0v (p:=fun _=>True) (P:=fun _=>True) new c src (fun _ _ _ _=>trivial) (fun _ _ _ _ _=>hif _ _ _ _) (fun _ _ _ _ _=>helt _ _ _ _) hN hsw hiy hyy hfy hc hs) fun _ _ _ h=>(zue trivial).trans h
theorem z0k(iy:Nat)(c:CompOk X scope x N' fr)(src:zuo X (.Name x px) l f)(hif:∀s₀ H₀ C ex,FT (jx X (x::N') scope s₀ H₀ C ex) ifs cn)(helt:∀s₀ H₀ C ex,FE (jx X (x::N') scope s₀ H₀ C ex) elt g)(hN:X.N.Nodup)
   (hsw:swapsWith (.ListComp elt [⟨.Name x px,l,ifs,0⟩] scope pos) (some (.Name yy py)) spos.line X.env=pure true:=by rfl)
   (hiy:X.N[iy]? = some yy:=by rfl) (hyy:Loc X.env.scope yy:=by first | exact Or.inl rfl | exact Or.inr rfl) (hfy:X.fn yy=true\/X.env.scope.names.lookup yy=some .local:=by first | exact .inl rfl | exact .inr rfl | assumption)
   (hc:X.calm=true:=by rfl) (hs:∀v,foldedSetIterable l X.env v=pure v:=by intro _;rfl):FS X (.Assign [.Name yy py] (.ListComp elt [⟨.Name x px,l,ifs,0⟩] scope pos) spos) (qp iy (zat fr f cn g)):=z3i true c src hif helt hN hsw hiy hyy hfy hc hs
end
end F
namespace Mt
open PySem L2 F
def isI:D->Option Int
 | .int i=>some i
 |_=>none
def isS:D->Option Str
 | .str i=>some i
 |_=>none
def isP:D->Option (Int×Int)
 | .tup [.int a,.int b]=>some (a,b)
 |_=>none
def ad(k:Nat)(x y:D):D:=match k with
 |1=>(match isI x,isI y with | some i,some j=>.int (i+j) | _,_=>.non)
 |2=>(match isS x,isS y with | some i,some j=>.str (i++j) | _,_=>.non)
 |3=>(match isP x,isP y with | some p,some q=>.tup [.int (p.1*q.1%1000003),.int ((p.2*q.1+q.2)%1000003)] | _,_=>.non)
 |4=>(match isI x,isI y with | some i,some j=>.int (if j>i then j else i) | _,_=>.non)
 |_=>.non
theorem zno(a b c:Str):a++b++c=a++(b++c):=by show Str.mk ((a.cps++b.cps)++c.cps)=Str.mk (a.cps++(b.cps++c.cps));rw[Array.append_assoc]
theorem str_len(a b:Str):(a++b).length=a.length+b.length:=strLen_append a b
theorem ad1(x y:D):ad 1 x y=match isI x,isI y with | some i,some j=>.int (i+j) | _,_=>.non:=rfl
theorem ad2(x y:D):ad 2 x y=match isS x,isS y with | some i,some j=>.str (i++j) | _,_=>.non:=rfl
theorem ad4(x y:D):ad 4 x y=match isI x,isI y with | some i,some j=>.int (if j>i then j else i) | _,_=>.non:=rfl
theorem ad3(x y:D):ad 3 x y=match isP x,isP y with | some p,some q=>.tup [.int (p.1*q.1%1000003),.int ((p.2*q.1+q.2)%1000003)] | _,_=>.non:=rfl
theorem mm(a b m:Int):(a%m*b)%m=a*b%m:=by rw[Int.mul_emod,Int.emod_emod_of_dvd _ (Int.dvd_refl m),<-Int.mul_emod]
theorem mm'(a b m:Int):(b*(a%m))%m=b*a%m:=by rw[Int.mul_comm,mm,Int.mul_comm]
theorem am(a b m:Int):(a%m+b)%m=(a+b)%m:=by rw[Int.add_emod,Int.emod_emod_of_dvd _ (Int.dvd_refl m),<-Int.add_emod]
theorem zta(k:Nat)(x y z:D):ad k (ad k x y) z=ad k x (ad k y z):=by
 match k with
 |0=>rfl
 | 1=>
   simp only[ad1];cases h1:isI x<;>cases h2:isI y<;>cases h3:isI z<;>simp[isI,Int.add_assoc]
 | 2=>
   simp only[ad2];cases h1:isS x<;>cases h2:isS y<;>cases h3:isS z<;>simp[isS,zno]
 | 3=>
   simp only[ad3];cases h1:isP x<;>cases h2:isP y<;>cases h3:isP z<;>simp[isP];rename_i p q r;constructor
   · rw[mm,mm',Int.mul_assoc]
   · rw[<-am (_*_) _ 1000003,mm,<-am (p.snd*_) _ 1000003,mm',am,am];congr 1;rw[Int.add_mul,Int.mul_assoc,Int.add_assoc]
 | 4=>
   simp only[ad4];cases h1:isI x<;>cases h2:isI y<;>cases h3:isI z<;>simp[isI]
   repeat' split
   all_goals omega
 |n+5=>rfl
def yc(k:Nat):List D->D
 | []=>.non
 |t::r=>if k=0 then .non else r.foldl (ad k) t
theorem zax(ts:List D):yc 0 ts=.non:=by cases ts<;>rfl
theorem zpy(k:Nat)(a:D):∀(r:List D) (b:D),r.foldl (ad k) (ad k a b)=ad k a (r.foldl (ad k) b)
 | [],_=>rfl
 | c::r,b=>by show r.foldl (ad k) (ad k (ad k a b) c)=ad k a (r.foldl (ad k) (ad k b c));rw[zta,zpy k a r]
theorem zag{k:Nat}(hk:k≠0){xs ys:List D}(hx:xs≠[])(hy:ys≠[]):yc k (xs++ys)=ad k (yc k xs) (yc k ys):=by
 cases xs with
 |nil=>exact absurd rfl hx
 | cons x xs=>
   cases ys with
   |nil=>exact absurd rfl hy
   | cons y ys=>
     show(if k=0 then D.non else (xs++y::ys).foldl (ad k) x)=ad k (if k=0 then D.non else xs.foldl (ad k) x) (if k=0 then D.non else ys.foldl (ad k) y);rw[z7a hk,z7a hk,z7a hk,List.foldl_append,List.foldl_cons,zpy]
theorem zb8{k:Nat}(hk:k≠0)(t:D):yc k [t]=t:=by show(if k=0 then D.non else t)=t;rw[z7a hk]
def Th(k n:Nat)(d:D):Prop:=match k with
 |1=>∃i,d=.int i
 |2=>∃z,d=.str z/\z.length<=8*n
 |3=>∃a b,d=.tup [.int a,.int b]/\0<=a/\a<1000003/\0<=b/\b<1000003
 |4=>∃i,d=.int i
 |_=>False
def Thing(k:Nat)(d:D):Prop:=match k with
 |0=>(∃i,d=.int i)\/∃z,d=.str z/\z.length<=8
 |k=>Th k 1 d
theorem Th.ad{k n m:Nat}{x y:D}(hx:Th k n x)(hy:Th k m y):Th k (n+m) (ad k x y):=by
 match k,hx,hy with
 |0,h,_=>exact h.elim
 |1,⟨i,e⟩,⟨j,e'⟩=>subst e e';exact⟨_,rfl⟩
 |2,⟨i,e,h⟩,⟨j,e',h'⟩=>subst e e';exact⟨_,rfl,by rw[str_len];omega⟩
 | 3,⟨a,b,e,h⟩,⟨c,d,e',h'⟩=>
   subst e e';exact⟨_,_,rfl,z8j _ (by decide),z74 _ (by decide),z8j _ (by decide),z74 _ (by decide)⟩
 |4,⟨i,e⟩,⟨j,e'⟩=>subst e e';exact⟨_,rfl⟩
 |n+5,h,_=>exact h.elim
theorem Thing.th{k:Nat}{d:D}(hk:k≠0)(h:Thing k d):Th k 1 d:=by
 match k,hk,h with
 |0,hk,_=>exact absurd rfl hk
 |k+1,_,h=>exact h
theorem zdi{k:Nat}(hk:k≠0):∀{ts:List D},ts≠[]->(∀t∈ts,Thing k t)->Th k ts.length (yc k ts)
 | [],h,_=>absurd rfl h
 | [t],_,h=>by rw[zb8 hk];exact(h t (by simp)).th hk
 | t::u::r,_,h=>by rw[show t::u::r=[t]++(u::r)from rfl,zag hk (by simp) (by simp),zb8 hk];have:=((h t (by simp)).th hk).ad (zdi hk (ts:=u::r) (by simp) fun x hx=>h x (z6r _ hx));rw[Nat.add_comm]at this;exact this
def ord(a:Bool)(xs:List D):List D:=if a=true then xs.reverse else xs
theorem xx(a:Bool)(xs:List D):(ord a xs).length=xs.length:=by unfold ord;split<;>simp
def mkD(num:Int)(a:Bool)(l t r:D)(sz ht:Int)(to ba:D):D:=.tup [.int num,.bl a,l,t,r,.int sz,.int ht,to,ba]
inductive Mk (k:Nat):D->List D->Nat->Prop where
 |non:Mk k .non [] 0
 | node {num:Int}{a:Bool}{l t r:D}{lt rt:List D}{lh rh:Nat}:Mk k l lt lh->Mk k r rt rh->Thing k t->lh<=rh+1->rh<=lh+1 ->
   Mk k (mkD num a l t r (lt.length+1+rt.length:Nat) (max lh rh+1:Nat) (yc k (ord a (lt++t::rt))) (yc k (ord a (lt++t::rt)).reverse)) (ord a (lt++t::rt)) (max lh rh+1)
theorem Mk.things{k d ts h}(m:Mk k d ts h):∀t∈ts,Thing k t:=by
 induction m with
 |non=>intro t ht;cases ht
 | @node num a l t r lt rt lh rh ml mr ht _ _ il ir=>
   intro x hx;have:x∈lt++t::rt:=by
     unfold ord at hx;split at hx
     · exact z86.mp hx
     · exact hx
   rcases z62.mp this with q | q
   · exact il x q
   · rcases z6n.mp q with rfl | q
     · exact ht
     · exact ir x q
end Mt
namespace Pg
open PySem L2 F Mt
variable {k:Nat}{d l r t:D}{ts lt rt:List D}{h lh rh:Nat}{S S1:Sto}{ev e:Ev}
theorem ztf:(2:Nat)<=sizeLine:=by decide
theorem z0b(a b c d e f g h i:D):atI [a,b,c,d,e,f,g,h,i] (1:Int)=some b:=rfl
theorem zwa(a b c d e f g h i:D):atI [a,b,c,d,e,f,g,h,i] (2:Int)=some c:=rfl
theorem z0a(a b c d e f g h i:D):atI [a,b,c,d,e,f,g,h,i] (3:Int)=some d:=rfl
theorem zv9(a b c d e f g h i:D):atI [a,b,c,d,e,f,g,h,i] (4:Int)=some e:=rfl
theorem z3b(a b c d e f g h i:D):atI [a,b,c,d,e,f,g,h,i] (5:Int)=some f:=rfl
theorem z3a(a b c d e f g h i:D):atI [a,b,c,d,e,f,g,h,i] (6:Int)=some g:=rfl
theorem zz9(a b c d e f g h i:D):atI [a,b,c,d,e,f,g,h,i] (7:Int)=some h:=rfl
theorem zz8(a b c d e f g h i:D):atI [a,b,c,d,e,f,g,h,i] (8:Int)=some i:=rfl
theorem zff(i j:Int):j7 (.int i) (.int j)=some (.bl (i==j)):=rfl
theorem z3q{n:Nat}{x:D}(hx:Th k n x):j7 x x=some (.bl true):=by
 match k,hx with
 |0,h=>exact h.elim
 |1,⟨i,e⟩=>subst e;rw[zff];simp
 |2,⟨z,e,_⟩=>subst e;show(some (eqV (.str z) (.str z))).map D.bl=_;simp[eqV]
 |3,⟨a,b,e,_⟩=>subst e;show(some ((eqV (.int a) (.int a))&&((eqV (.int b) (.int b))&&true))).map D.bl=_;simp[eqV]
 |4,⟨i,e⟩=>subst e;rw[zff];simp
 |n+5,h=>exact h.elim
theorem zt9(hts:∀x∈ts,Thing k x):j7 (yc k ts) (yc k ts)=some (.bl true):=by
 by_cases hk:k=0
 · subst hk;rw[zax];rfl
 · cases ts with
   |nil=>rfl
   |cons x r=>exact z3q (zdi hk (by simp) hts)
theorem znz{i:Nat}{a b:MO}(h:S[i]? = some a):(S.set i b)[i]? = some b:=z7w (z6o.mp h).1
theorem zx9{i j:Nat}(hij:i≠j)(b:MO):(S.set i b)[j]? = S[j]?:=z88 hij
def Ok(c:C)(ev:Ev)(S:Sto):Prop:=∃S',c ev S=some (.rt (.bl true),S')
theorem zv{i:Nat}{f:E}(h:f ev S=some (d,S1)):qp i f ev S=some (.nx (ev.set i (some d)),S1):=by simp[qp,h]
theorem zo{c:B}{a:C}(h:c ev S=some (false,S1)):sIf c a je ev S=some (.nx ev,S1):=by simp[sIf,h,je]
theorem z8{c:B}{a b:C}{o:Out}{S2:Sto}(h:c ev S=some (true,S1))(q:a ev S1=some (o,S2)):sIf c a b ev S=some (o,S2):=by simp[sIf,h,q]
theorem qj{f:E}{b:Bool}(h:f ev S=some (.bl b,S1)):bE f ev S=some (b,S1):=by simp[bE,h]
theorem z1k{u:B}{b:Bool}(h:u ev S=some (b,S1)):zbq u ev S=some (!b,S1):=by simp[zbq,h]
theorem zq2{u:B}(h:u ev S=some (true,S1)):zbq u ev S=some (false,S1):=by simp[zbq,h]
theorem z43{u:B}(h:u ev S=some (false,S1)):zbq u ev S=some (true,S1):=by simp[zbq,h]
theorem zln{u v:B}(h:u ev S=some (false,S1)):zm6 u v ev S=some (false,S1):=by simp[zm6,h]
theorem zem{u v:B}{b:Bool}{S2:Sto}(h:u ev S=some (true,S1))(q:v ev S1=some (b,S2)):zm6 u v ev S=some (b,S2):=by simp[zm6,h,q]
theorem zs7{u v:B}{b:Bool}{S2:Sto}(h:u ev S=some (false,S1))(q:v ev S1=some (b,S2)):bOr u v ev S=some (b,S2):=by simp[bOr,h,q]
theorem e_2{op:D->D->Option D}{f g:E}{x y z:D}{S2:Sto}(h:f ev S=some (x,S1))(q:g ev S1=some (y,S2))(o:op x y=some z):e2 op f g ev S=some (z,S2):=by simp[e2,h,q,o]
theorem qw{op:Sto->D->D->Option D}{f g:E}{x y z:D}{S2:Sto}(h:f ev S=some (x,S1))(q:g ev S1=some (y,S2))(o:op S2 x y=some z):e2s op f g ev S=some (z,S2):=by simp[e2s,h,q,o]
theorem e_v{i:Nat}(h:ev[i]? = some (some d)):eV i ev S=some (d,S):=by simp[eV,h]
theorem e_k:eK d ev S=some (d,S):=rfl
theorem a_n:aN ev S=some ([],S):=rfl
theorem a_c{f:E}{g:As}{ds:List D}{S2:Sto}(h:f ev S=some (d,S1))(q:g ev S1=some (ds,S2)):aC f g ev S=some (d::ds,S2):=by simp[aC,h,q]
theorem zj{g:G}{a:As}{ds:List D}{S2:Sto}(h:a ev S=some (ds,S1))(q:g ds S1=some (d,S2)):zn g a ev S=some (d,S2):=by simp[zn,h,q]
theorem e_a{op:Sto->List D->Option D}{a:As}{ds:List D}(h:a ev S=some (ds,S1))(o:op S1 ds=some d):eA op a ev S=some (d,S1):=by simp[eA,h,o]
theorem zbp{a:As}{ds:List D}(h:a ev S=some (ds,S1))(hl:ds.length<=16777216):zb3 a ev S=some (.tup ds,S1):=by have hz:sizeLine=16777216:=z7z;simp[zb3,eA,h,hz,hl]
theorem zsp{a:As}{ds:List D}(h:a ev S=some (ds,S1))(hl:ds.length<=16777216):zq1 a ev S=some (.lst ds,S1):=by have hz:sizeLine=16777216:=z7z;simp[zq1,eA,h,hz,hl]
theorem zfg{a:As}{ds:List D}(h:a ev S=some (ds,S1))(hl:ds.length<=16777216):zeu a ev S=some (.obj S1.length,S1++[.lst ds]):=by have hz:sizeLine=16777216:=z7z;simp[zeu,h,hz,hl]
theorem x4{c m:Str}{g:G}{f:E}{a:As}{i:Nat}{fs:List (Str×D)}{ds:List D}{S2 S3:Sto}(h:f ev S=some (.obj i,S1))(hi:zc1 c S1 (.obj i)=some (i,fs))(hm:fs.lookup m=none)(ha:a ev S1=some (ds,S2))(q:g (.obj i::ds) S2=some (d,S3)) :
   x5 c m g f a ev S=some (d,S3):=by simp[x5,h,hi,hm,ha,q]
theorem z3s{c n:Str}{f:E}{i:Nat}{fs:List (Str×D)}(h:f ev S=some (.obj i,S1))(hi:zc1 c S1 (.obj i)=some (i,fs))(hm:fs.lookup n=some d):zuf c n f ev S=some (d,S1):=by simp[zuf,h,hi,hm]
theorem zxe{f:E}{a b:Pt}{x:D}{lo hi:Option Int}{S2 S3:Sto}(h:f ev S=some (x,S1))(ha:a ev S1=some (lo,S2))(hb:b ev S2=some (hi,S3))(o:zzd x lo hi=some d):eSl f a b ev S=some (d,S3):=by simp[eSl,h,ha,hb,o]
theorem p_n:pN ev S=some (none,S):=rfl
theorem p_e{f:E}{i:Int}(h:f ev S=some (.int i,S1)):pE f ev S=some (some i,S1):=by simp[pE,h]
theorem zle{f g:E}{S2:Sto}(h:f ev S=some (.bl true,S1))(q:g ev S1=some (d,S2)):zfi f g ev S=some (d,S2):=by simp[zfi,h,q]
theorem z00{f g:E}(h:f ev S=some (.bl false,S1)):zfi f g ev S=some (.bl false,S1):=by simp[zfi,h]
theorem z0z{f:E}{b:Bool}(h:f ev S=some (.bl b,S1)):zxg f ev S=some (.bl !b,S1):=by simp[zxg,e1,h]
theorem add_int(i j:Int):qh (.int i) (.int j)=some (.int (i+j)):=rfl
theorem sub_int(i j:Int):zau (.int i) (.int j)=some (.int (i-j)):=rfl
theorem zg1{xs ys:List D}(h:xs.length+ys.length<=16777216):qh (.lst xs) (.lst ys)=some (.lst (xs++ys)):=by have hz:sizeLine=16777216:=z7z;simp[qh,hz,h]
theorem zg0{x:D}{xs ys:List D}(h:(x::xs).length+ys.length<=16777216):qh (.tup (x::xs)) (.tup ys)=some (.tup (x::xs++ys)):=by have hz:sizeLine=16777216:=z7z;simp only[qh,hz,z64 h]
def pl:Nat->D->Bool
 |_,.non=>true
 |_,.bl _=>true
 |_,.int _=>true
 |_,.str _=>true
 |n+1,.tup ds=>ds.all (pl n)
 |n+1,.lst ds=>ds.all (pl n)
 |_,_=>false
theorem zgm{f:D->D->Option Bool}:∀{ds:List D},(∀x∈ds,f x x=some true)->eqL f ds ds=some true
 | [],_=>rfl
 |x::ds,h=>by simp[eqL,h x (by simp),zgm fun y hy=>h y (z6r _ hy)]
theorem zld:∀{n:Nat}{d:D},pl n d=true->eqN n d d=some true:=by
 intro n
 induction n with
 |zero=>intro d h;cases d<;>first | (cases h;done) | simp[eqN,eqF,zd6,eqV]
 | succ n ih=>
   intro d h;cases d with
   | tup ds=>
     have h:ds.all (pl n)=true:=h;exact zgm fun x hx=>ih (z7v.mp h x hx)
   | lst ds=>
     have h:ds.all (pl n)=true:=h;have q:eqL (eqN n) ds ds=some true:=zgm fun x hx=>ih (z7v.mp h x hx);simp[eqN,q]
   |_=>first | (cases h;done) | simp[eqN,eqF,zd6,eqV,zhp]
theorem zah:∀{n m:Nat}{d:D},n<=m->pl n d=true->pl m d=true:=by
 intro n
 induction n with
 |zero=>intro m d _ h;cases d<;>first | (cases h;done) | (cases m<;>rfl)
 | succ n ih=>
   intro m d hm h;cases m with
   |zero=>omega
   | succ m=>
     cases d with
     |tup ds=>exact z7v.mpr fun x hx=>ih (by omega) (z7v.mp h x hx)
     |lst ds=>exact z7v.mpr fun x hx=>ih (by omega) (z7v.mp h x hx)
     |_=>first | (cases h;done) | rfl
theorem zys{n:Nat}{x:D}(hx:Th k n x):pl 1 x=true:=by
 match k,hx with
 |0,h=>exact h.elim
 |1,⟨i,e⟩=>subst e;rfl
 |2,⟨z,e,_⟩=>subst e;rfl
 |3,⟨a,b,e,_⟩=>subst e;rfl
 |4,⟨i,e⟩=>subst e;rfl
 |n+5,h=>exact h.elim
theorem zkl{x:D}(hx:Thing k x):pl 1 x=true:=by
 match k,hx with
 |0,.inl ⟨i,e⟩=>subst e;rfl
 |0,.inr ⟨z,e,_⟩=>subst e;rfl
 |k+1,h=>exact zys (k:=k+1) h
theorem ztu(hts:∀x∈ts,Thing k x):pl 1 (yc k ts)=true:=by
 by_cases hk:k=0
 · subst hk;rw[zax];rfl
 · cases ts with
   |nil=>rfl
   |cons x r=>exact zys (zdi hk (by simp) hts)
theorem z2u(m:Mk k d ts h):pl (h+1) d=true:=by
 induction m with
 |non=>rfl
 | @node num a l t r lt rt lh rh ml mr ht h1 h2 il ir=>
   have th:∀x∈ord a (lt++t::rt),Thing k x:=(Mk.node (num:=num) (a:=a) ml mr ht h1 h2).things;have th':∀x∈(ord a (lt++t::rt)).reverse,Thing k x:=fun x hx=>th x (z86.mp hx);have a1:=zah (m:=max lh rh+1) (by omega) il;have a2:=zah (m:=max lh rh+1) (by omega) ir;have a3:=zah (m:=max lh rh+1) (by omega) (zkl ht);have a4:=zah (m:=max lh rh+1) (by omega) (ztu th);have a5:=zah (m:=max lh rh+1) (by omega) (ztu th');show List.all _ (pl (max lh rh+1))=true;simp only[List.all_cons,List.all_nil,a1,a2,a3,a4,a5,qb2];rfl
theorem zsm(h:pl 150 d=true):j7 d d=some (.bl true):=by unfold j7;rw[zld h];rfl
theorem zzj(h:pl 150 d=true):zi0 d d=some (.bl false):=by unfold zi0;rw[zld h];rfl
theorem zol(hts:∀x∈ts,Thing k x):pl 2 (.lst ts)=true:=z7v.mpr fun x hx=>zkl (hts x hx)
theorem jq{N n:Nat}{c:C}{ds:List D}{S S':Sto}{d:D}(hl:ds.length=n)(h:c (ds.map some++List.replicate (N-ds.length) none) S=some (.rt d,S')):z9 N n c ds S=some (d,S'):=by unfold z9;rw[z64 hl,h]
theorem zw{f:E}(h:f ev S=some (d,S1)):qm f ev S=some (.rt d,S1):=by simp[qm,h]
theorem qi{a b:C}(h:a ev S=some (.rt d,S1)):z5 a b ev S=some (.rt d,S1):=by simp[z5,h]
theorem zh{a b:C}{o:Out}{S2:Sto}(h:a ev S=some (.nx e,S1))(q:b e S1=some (o,S2)):z5 a b ev S=some (o,S2):=by simp[z5,h,q]
inductive Sv:D->Prop where
 |non:Sv .non
 |int (i:Int):Sv (.int i)
 |str (z:Str):Sv (.str z)
 |pair (a b:Int):Sv (.tup [.int a,.int b])
theorem z2k{x y:D}(hx:Sv x)(hy:Sv y)(n:Nat):∃b,eqN (n+1) x y=some b/\(b=true↔x=y):=by
 cases hx<;>cases hy
 case int.int i j=>exact⟨i==j,by simp[eqN,zhp,eqF,zd6,eqV],by simp⟩
 case str.str i j=>exact⟨i==j,by simp[eqN,zhp,eqF,zd6,eqV],by simp⟩
 case pair.pair a b c d=>
   have e:∀(m:Nat) (i j:Int),eqN m (.int i) (.int j)=some (i==j):=fun m i j=>by cases m<;>rfl
   exact⟨(a==c)&&((b==d)&&true),by simp[eqN,eqL,e],by simp⟩
 case non.non=>exact⟨true,rfl,by simp⟩
 all_goals exact⟨false,rfl,by simp⟩
theorem zuz{n:Nat}{x:D}(hx:Th k n x):Sv x:=by
 match k,hx with
 |0,h=>exact h.elim
 |1,⟨i,e⟩=>subst e;exact .int _
 |2,⟨z,e,_⟩=>subst e;exact .str _
 |3,⟨a,b,e,_⟩=>subst e;exact .pair _ _
 |4,⟨i,e⟩=>subst e;exact .int _
 |n+5,h=>exact h.elim
theorem zkb{x:D}(hx:Thing k x):Sv x:=by
 match k,hx with
 |0,.inl ⟨i,e⟩=>subst e;exact .int _
 |0,.inr ⟨z,e,_⟩=>subst e;exact .str _
 |k+1,h=>exact zuz (k:=k+1) h
theorem zxz(hts:∀x∈ts,Thing k x):Sv (yc k ts):=by
 by_cases hk:k=0
 · subst hk;rw[zax];exact .non
 · cases ts with
   |nil=>exact .non
   |cons x r=>exact zuz (zdi hk (by simp) hts)
def low:Nat->Nat
 |0=>0
 |1=>1
 |h+2=>low (h+1)+low h+1
theorem zr5:∀h:Nat,low h<=low (h+1)
 |0=>by decide
 |1=>by decide
 | h+2=>by show low (h+2)<=low (h+2)+low (h+1)+1;omega
theorem zf5{a b:Nat}(h:a<=b):low a<=low b:=by
 induction b with
 |zero=>rw[Nat.le_zero.mp h];exact z6l _
 | succ b ih=>
   rcases z8p a (b+1)with q | q
   · exact z67 (ih (by omega)) (zr5 b)
   · rw[z9s h q];exact z6l _
theorem zzn{k:Nat}{d:D}{ts:List D}{h:Nat}(m:Mk k d ts h):low h<=ts.length:=by
 induction m with
 |non=>decide
 | @node num a l t r lt rt lh rh ml mr ht h1 h2 il ir=>
   rw[xx,z6k,List.length_cons];rcases Nat.le_total lh rh with q | q
   · rw[qa8 q];cases rh with
     | zero => have:lh=0:=by omega
               subst this;show 1<=_;omega
     | succ rh=>
       show low (rh+1)+low rh+1<=_;have:=zf5 (show rh<=lh by omega);omega
   · rw[Nat.max_eq_left q];cases lh with
     | zero => have:rh=0:=by omega
               subst this;show 1<=_;omega
     | succ lh=>
       show low (lh+1)+low lh+1<=_;have:=zf5 (show lh<=rh by omega);omega
theorem y8{x j:Int}(h:0<j):qz (.int x) (.int j)=some (.int (x%j)):=by simp[qz,F.opI,z20,h]
theorem zmo{x j:Int}(h:0<j/\j<1073741824):zdl (.int x) (.int j)=some (.int (x/j)):=by simp[zdl,F.opI,z3v,h]
theorem zku{x y:Int}(h:-(2^64)<x/\x<2^64):zai (.int x) (.int y)=some (.int (x*y)):=by simp only[zai,F.opI,z1r];rw[z64 (.inl h)];rfl
theorem zhi{x y:Int}(h:-(2^64)<y/\y<2^64):zai (.int x) (.int y)=some (.int (x*y)):=by simp only[zai,F.opI,z1r];rw[z64 (.inr (.inl h))];rfl
theorem zf8(S:Sto)(x:MO):(S++[x])[S.length]? = some x:=by simp
end Pg
namespace Pg
open PySem L2 F
noncomputable section
def lt_0:LT where
 params:={posonlyargs:=[],args:=[{ arg:="_law_thing_here",annotation:=none,pos:=⟨304,41,304,56⟩:PySem.Arg }],vararg:=none,kwonlyargs:=[],kw_defaults:=[],kwarg:=none,defaults:=[]:PySem.Arguments }
 body:=(PySem.Expr.Call
  (func:=(PySem.Expr.Name "_law_key" ⟨304,58,304,66⟩))
  (args:=[(PySem.Expr.Name "_law_kind" ⟨304,67,304,76⟩),(PySem.Expr.Name "_law_thing_here" ⟨304,78,304,93⟩)])
  (keywords:=[])
  (pos:=⟨304,58,304,94⟩))
 scope:={kind:=PySem.ScopeKind.function,names:=[(PySem.Str.ofString "_law_thing_here",PySem.NameKind.local),(PySem.Str.ofString "_law_kind",PySem.NameKind.free),(PySem.Str.ofString "_law_key",PySem.NameKind.globalImplicit)],isGenerator:=false,isCoroutine:=false,more:=[]:PySem.Scope }
 qual:=(("_law_sorted":Str)++".<locals>.")++"<lambda>"
 caps:=["_law_kind"]
def lt_1:LT where
 params:={posonlyargs:=[],args:=[{ arg:="_law_one",annotation:=none,pos:=⟨330,25,330,33⟩:PySem.Arg },{ arg:="_law_other",annotation:=none,pos:=⟨330,35,330,45⟩:PySem.Arg }],vararg:=none,kwonlyargs:=[],kw_defaults:=[],kwarg:=none,defaults:=[]:PySem.Arguments }
 body:=(PySem.Expr.Compare
  (left:=(PySem.Expr.Call
  (func:=(PySem.Expr.Name "_law_key" ⟨330,47,330,55⟩))
  (args:=[(PySem.Expr.Name "_law_kind" ⟨330,56,330,65⟩),(PySem.Expr.Name "_law_one" ⟨330,67,330,75⟩)])
  (keywords:=[])
  (pos:=⟨330,47,330,76⟩)))
  (ops:=[PySem.CmpOp.Lt])
  (comparators:=[(PySem.Expr.Call
  (func:=(PySem.Expr.Name "_law_key" ⟨330,79,330,87⟩))
  (args:=[(PySem.Expr.Name "_law_kind" ⟨330,88,330,97⟩),(PySem.Expr.Name "_law_other" ⟨330,99,330,109⟩)])
  (keywords:=[])
  (pos:=⟨330,79,330,110⟩))])
  (pos:=⟨330,47,330,110⟩))
 scope:={kind:=PySem.ScopeKind.function,names:=[(PySem.Str.ofString "_law_one",PySem.NameKind.local),(PySem.Str.ofString "_law_other",PySem.NameKind.local),(PySem.Str.ofString "_law_kind",PySem.NameKind.free),(PySem.Str.ofString "_law_key",PySem.NameKind.globalImplicit)],isGenerator:=false,isCoroutine:=false,more:=[]:PySem.Scope }
 qual:=(("_law_told":Str)++".<locals>.")++"<lambda>"
 caps:=["_law_kind"]
def lt_2:LT where
 params:={posonlyargs:=[],args:=[{ arg:="_law_one",annotation:=none,pos:=⟨353,26,353,34⟩:PySem.Arg },{ arg:="_law_other",annotation:=none,pos:=⟨353,36,353,46⟩:PySem.Arg }],vararg:=none,kwonlyargs:=[],kw_defaults:=[],kwarg:=none,defaults:=[]:PySem.Arguments }
 body:=(PySem.Expr.BinOp
  (left:=(PySem.Expr.Name "_law_one" ⟨353,48,353,56⟩))
  (op:=PySem.Operator.Add)
  (right:=(PySem.Expr.Name "_law_other" ⟨353,59,353,69⟩))
  (pos:=⟨353,48,353,69⟩))
 scope:={kind:=PySem.ScopeKind.function,names:=[(PySem.Str.ofString "_law_one",PySem.NameKind.local),(PySem.Str.ofString "_law_other",PySem.NameKind.local)],isGenerator:=false,isCoroutine:=false,more:=[]:PySem.Scope }
 qual:=(("law":Str)++".<locals>.")++"<lambda>"
def z4y:E :=
 (e2 qh (eV 0) (eV 1))
def z3g:G:=zcs 2 2 z4y
open Classical in
def zer:LT->Option G:=fun t=>
 if t=lt_2 then some z3g else
 none
def tabs:List (Str×Str):=[("_law_told",(("_law_told":Str)++".<locals>.")++"<lambda>"),("_law_sorted",(("_law_sorted":Str)++".<locals>.")++"<lambda>"),("law",(("law":Str)++".<locals>.")++"<lambda>")]
def zbd:C :=
 (z5 (zl1 "Wood" "adding" (eV 0) (eV 1)) (zl1 "Wood" "nodes_made" (eV 0) (eK (.int 0))))
def jd:G:=z9 2 2 zbd
def zju:C :=
 (z5 (sIf (bE (e2 j7 (eV 0) (eK (.int 3)))) (qm (e2 qh (e2 zai (e2 zdl (eV 1) (eK (.int 3))) (eK (.int 3))) (e2 qz (e2 qh (eV 1) (eK (.int 1))) (eK (.int 3))))) je) (z5 (sIf (bE (e2 j7 (eV 0) (eK (.int 4)))) (qm (e2 zau (eK (.int 0)) (eV 1))) je) (z5 (sIf (bE (e2 j7 (eV 0) (eK (.int 7)))) (qm (e2 qh (zwz (eV 1) pN (pE (eK (.int 1)))) (eK (.str (Str.ofString "zz"))))) je) (qm (eV 1)))))
def xk:G:=z9 2 2 zju
def zjt:C :=
 (z5 (qp 2 (e2 qh (e2 zai (e2 zai (eV 1) (eV 1)) (eK (.int 7919))) (eK (.int 17)))) (z5 (sIf (bE (e2 zii (eA zc7 (aC (eV 0) aN)) (eK (.int 0)))) (qp 2 (e2 qh (e2 qz (e2s qa (eV 0) (e2 qz (eV 1) (eA zc7 (aC (eV 0) aN)))) (e2 zdk (eK (.int 10)) (eK (.int 30)))) (e2 zai (e2 zdl (eV 1) (eA zc7 (aC (eV 0) aN))) (eK (.int 104729))))) je) (qm (e2 qz (e2 zai (e2 qz (e2 qh (e2 zai (eV 2) (eK (.int 48271))) (e2 zai (eV 1) (eK (.int 69621)))) (eK (.int 2147483647))) (e2 qh (e2 qz (eV 2) (eK (.int 65521))) (eK (.int 3)))) (eK (.int 999999937))))))
def zq:G:=z9 3 2 zjt
def zm0:C :=
 (z5 (sIf (bE (e2 j7 (eV 0) (eK (.int 1)))) (qm (e2 zau (eK (.int 0)) (eV 1))) je) (z5 (sIf (bE (e2 j7 (eV 0) (eK (.int 2)))) (qm (zb3 (aC (e2 qz (eV 1) (eK (.int 7))) (aC (eV 1) aN)))) je) (z5 (sIf (bE (e2 j7 (eV 0) (eK (.int 3)))) (qm (e2 zdl (eV 1) (eK (.int 3)))) je) (z5 (sIf (bE (e2 j7 (eV 0) (eK (.int 4)))) (qm (eA zxh (aC (eV 1) aN))) je) (z5 (sIf (bE (e2 j7 (eV 0) (eK (.int 6)))) (qm (zb3 (aC (eA zc7 (aC (eV 1) aN)) (aC (eV 1) aN)))) je) (z5 (sIf (bE (e2 j7 (eV 0) (eK (.int 7)))) (qm (zwz (eV 1) pN (pE (eK (.int 1))))) je) (qm (eV 1))))))))
def ja:G:=z9 2 2 zm0
def zh8:C :=
 (qm (e2 zi0 (xc [0,1] (zih (eV 2)) (bE (e2 j7 (zn ja (aC (eV 1) (aC (eV 0) aN))) (zn ja (aC (eV 1) (aC (eV 2) aN))))) (eV 0)) (zq1 aN)))
def jl:G:=z9 3 3 zh8
def z1z:E :=
 (zn ja (aC (eV 1) (aC (eV 0) aN)))
def z0e:G:=zcs 2 2 z1z
def zgw:C :=
 (z5 (qp 2 (zeu aN)) (z5 (zyf (zjb (eV 1)) (zfv 3 (eV 1) (sIf (zbq (bE (zn jl (aC (eV 0) (aC (eV 3) (aC (eV 2) aN)))))) (xg (eV 2) (eV 3)) je)) (zl0 3 (eV 1) (sIf (zbq (bE (zn jl (aC (eV 0) (aC (eV 3) (aC (eV 2) aN)))))) (xg (eV 2) (eV 3)) je))) (qm (zfh (eV 2) z0e 1 "_law_sorted" lt_0 [0]))))
def q9:G:=frz (z9 4 2 zgw)
def zm1:C :=
 (z5 (sIf (bE (e2 j7 (eV 1) (eK (.str (Str.ofString "either"))))) (qm (zn q9 (aC (eV 0) (aC (e2 qh (eV 2) (eV 3)) aN)))) je) (z5 (sIf (bE (e2 j7 (eV 1) (eK (.str (Str.ofString "common"))))) (qm (xc [0,3] (zih (eV 2)) (bE (zn jl (aC (eV 1) (aC (eV 0) (aC (eV 2) aN))))) (eV 0))) je) (qm (xc [0,3] (zih (eV 2)) (zbq (bE (zn jl (aC (eV 1) (aC (eV 0) (aC (eV 2) aN)))))) (eV 0)))))
def y9:G:=z9 4 4 zm1
def zek:C :=
 (qm (zuf "Wood" "nodes_made" (eV 0)))
def kh:G:=z9 1 1 zek
def y3:C :=
 (z5 (qp 2 z01) (z5 (qp 3 (zat [] (zih (eV 1)) (bE (e2 ju (eV 0) (eK .non))) (eV 0))) (z5 (zhb 5000 (bE (e2s zhg (eV 3) (zq1 aN))) (z5 (qp 4 (zxf (eV 3))) (z5 (sIf (bOr (zbq (bE (eA zsb (aC (e2s qa (eV 4) (eK (.int 0))) (aC (eK (.ty "int")) aN))))) (bOr (bE (e2 zc4 (e2s qa (eV 4) (eK (.int 0))) (eK (.int 0)))) (bE (e2 zot (e2s qa (eV 4) (eK (.int 0))) (x5 "Wood" "made" kh (eV 0) aN))))) (qm (eK (.bl false))) je) (sIf (bE (e2s zbw (e2s qa (eV 4) (eK (.int 0))) (eV 2))) (z5 (zhd (eV 2) (e2s qa (eV 4) (eK (.int 0))) (eV 4)) (qp 3 (zmn (eV 3) (xc [] (zih (zb3 (aC (e2s qa (eV 4) (eK (.int 2))) (aC (e2s qa (eV 4) (eK (.int 4))) aN)))) (bE (e2 ju (eV 0) (eK .non))) (eV 0))))) (sIf (bE (e2 zi0 (e2s zdm (eV 2) (e2s qa (eV 4) (eK (.int 0)))) (eV 4))) (qm (eK (.bl false))) je))))) (qm (eK (.bl true))))))
def xb:G:=frz (z9 5 2 y3)
def zbc:C :=
 (z5 (qp 2 (zuf "Wood" "nodes_made" (eV 0))) (z5 (zl1 "Wood" "nodes_made" (eV 0) (e2 qh (eV 2) (eK (.int 1)))) (qm (e2 qh (zb3 (aC (eV 2) aN)) (eV 1)))))
def j5:G:=z9 3 2 zbc
def z1j:C :=
 (z5 (sIf (bE (e2 zf1 (eV 0) (eK .non))) (qm (eK .non)) je) (qm (e2s qa (eV 0) (eK (.int 8)))))
def zd5:G:=z9 1 1 z1j
def zs3:C :=
 (z5 (sIf (bE (e2 zf1 (eV 0) (eK .non))) (qm (eK (.int 0))) je) (qm (e2s qa (eV 0) (eK (.int 6)))))
def jf:G:=z9 1 1 zs3
def z1f:C :=
 (z5 (sIf (bE (e2 zf1 (eV 0) (eK .non))) (qm (eK (.int 0))) je) (qm (e2s qa (eV 0) (eK (.int 5)))))
def kx:G:=z9 1 1 z1f
def zw1:C :=
 (z5 (sIf (bE (e2 zf1 (eV 0) (eK .non))) (qm (eK .non)) je) (qm (e2s qa (eV 0) (eK (.int 7)))))
def zak:G:=z9 1 1 zw1
def zgx:C :=
 (z5 (sIf (bE (e2 zf1 (eV 1) (eK .non))) (qm (eK .non)) je) (z5 (qp 2 (zb3 (aC (e2s qa (eV 1) (eK (.int 2))) (aC (e2s qa (eV 1) (eK (.int 3))) (aC (e2s qa (eV 1) (eK (.int 4))) aN))))) (qm (x5 "Wood" "numbered" j5 (eV 0) (aC (e2 qh (e2 qh (zb3 (aC (zxg (e2s qa (eV 1) (eK (.int 1)))) aN)) (eV 2)) (zb3 (aC (zn kx (aC (eV 1) aN)) (aC (zn jf (aC (eV 1) aN)) (aC (zn zd5 (aC (eV 1) aN)) (aC (zn zak (aC (eV 1) aN)) aN)))))) aN)))))
def qu:G:=z9 3 2 zgx
def zh6:C :=
 (sIf (bE (e2 zii (eV 0) (eK (.int 2000)))) zhc je)
def yq:G:=z9 1 1 zh6
def zbu:C :=
 (qm (e2 qh (eK (.int 1)) (eA zzo (aC (zn jf (aC (eV 0) aN)) (aC (zn jf (aC (eV 1) aN)) aN)))))
def xa:G:=z9 2 2 zbu
def zcy:C :=
 (qm (e2 ze7 (eA zxh (aC (e2 zau (zn jf (aC (eV 0) aN)) (zn jf (aC (eV 1) aN))) aN)) (eK (.int 1))))
def j0:G:=z9 2 2 zcy
def zcx:C :=
 (qm (e2 qh (e2 qh (zn kx (aC (eV 0) aN)) (eK (.int 1))) (zn kx (aC (eV 1) aN))))
def ko:G:=z9 2 2 zcx
def ft:Str->Option G:=fun x=>
 none
def zex:C :=
 (z5 (qp 4 (eV 2)) (z5 (sIf (bE (e2 ju (eV 3) (eK .non))) (qp 4 (zac ft zer (eV 0) (aC (zn zd5 (aC (eV 3) aN)) (aC (eV 4) aN)))) je) (z5 (sIf (bE (e2 ju (eV 1) (eK .non))) (qp 4 (zac ft zer (eV 0) (aC (eV 4) (aC (zn zd5 (aC (eV 1) aN)) aN)))) je) (qm (eV 4)))))
def yx:G:=z9 5 4 zex
def zh5:C :=
 (z5 (qp 4 (eV 2)) (z5 (sIf (bE (e2 ju (eV 1) (eK .non))) (qp 4 (zac ft zer (eV 0) (aC (zn zak (aC (eV 1) aN)) (aC (eV 4) aN)))) je) (z5 (sIf (bE (e2 ju (eV 3) (eK .non))) (qp 4 (zac ft zer (eV 0) (aC (eV 4) (aC (zn zak (aC (eV 3) aN)) aN)))) je) (qm (eV 4)))))
def za4:G:=z9 5 4 zh5
def zba:C :=
 (z5 (sIf (bE (e2 zf1 (eV 0) (eK .non))) (qm (zb3 (aC (eK .non) (aC (eK .non) aN)))) je) (qm (zb3 (aC (zn za4 (aC (eV 0) (aC (eV 1) (aC (eV 2) (aC (eV 3) aN))))) (aC (zn yx (aC (eV 0) (aC (eV 1) (aC (eV 2) (aC (eV 3) aN))))) aN)))))
def xo:G:=z9 4 4 zba
def zjv:C :=
 (z5 (qp 4 (zn ko (aC (eV 1) (aC (eV 3) aN)))) (z5 (zcb (zn yq (aC (eV 4) aN))) (z5 (sIf (zbq (bE (zn j0 (aC (eV 1) (aC (eV 3) aN))))) zhc je) (z5 (qp 5 (zb3 (aC (eV 4) (aC (zn xa (aC (eV 1) (aC (eV 3) aN))) aN)))) (z5 (qp 6 (zn xo (aC (zuf "Wood" "adding" (eV 0)) (aC (eV 1) (aC (eV 2) (aC (eV 3) aN)))))) (qm (x5 "Wood" "numbered" j5 (eV 0) (aC (e2 qh (e2 qh (zb3 (aC (eK (.bl false)) (aC (eV 1) (aC (eV 2) (aC (eV 3) aN))))) (eV 5)) (eV 6)) aN))))))))
def qk:G:=z9 7 4 zjv
def zw2(self:G):C :=
 (z5 (sIf (bE (e2 j7 (eV 2) (eV 3))) (qm (eK .non)) je) (z5 (qp 4 (e2 zdl (e2 qh (eV 2) (eV 3)) (eK (.int 2)))) (z5 (qp 5 (zn (self) (aC (eV 0) (aC (eV 1) (aC (eV 2) (aC (eV 4) aN)))))) (z5 (qp 6 (zn (self) (aC (eV 0) (aC (eV 1) (aC (e2 qh (eV 4) (eK (.int 1))) (aC (eV 3) aN)))))) (qm (x5 "Wood" "node" qk (eV 0) (aC (eV 5) (aC (e2s qa (eV 1) (eV 4)) (aC (eV 6) aN)))))))))
def zgh:Nat->G
 |0=>fun _ _=>none
 |k+1=>z9 7 4 (zw2 (zgh k))
def zqo:C :=
 (z5 (zcb (zn yq (aC (eA zc7 (aC (eV 1) aN)) aN))) (qm (zn (zgh 40) (aC (eV 0) (aC (eV 1) (aC (eK (.int 0)) (aC (eA zc7 (aC (eV 1) aN)) aN)))))))
def x3:G:=z9 2 2 zqo
def zej:C :=
 (sIf (zbq (bE (zgn ze7 ze7 ze7 (eK (.int 0)) (eV 1) (eV 2) (zn kx (aC (eV 0) aN))))) zhc je)
def yk:G:=z9 3 3 zej
def zqn:C :=
 (z5 (sIf (zbq (bE (e2s qa (eV 1) (eK (.int 1))))) (qm (zb3 (aC (e2s qa (eV 1) (eK (.int 2))) (aC (e2s qa (eV 1) (eK (.int 3))) (aC (e2s qa (eV 1) (eK (.int 4))) aN))))) je) (z5 (qp 2 (x5 "Wood" "turned" qu (eV 0) (aC (e2s qa (eV 1) (eK (.int 4))) aN))) (z5 (qp 3 (x5 "Wood" "turned" qu (eV 0) (aC (e2s qa (eV 1) (eK (.int 2))) aN))) (qm (zb3 (aC (eV 2) (aC (e2s qa (eV 1) (eK (.int 3))) (aC (eV 3) aN))))))))
def xy:G:=z9 4 2 zqn
def zgt:C :=
 (z5 (qp 4 (zn xy (aC (eV 0) (aC (eV 1) aN)))) (z5 (sIf (bE (e2 zot (zn jf (aC (e2s qa (eV 4) (eK (.int 0))) aN)) (zn jf (aC (e2s qa (eV 4) (eK (.int 2))) aN)))) (qm (x5 "Wood" "node" qk (eV 0) (aC (e2s qa (eV 4) (eK (.int 0))) (aC (e2s qa (eV 4) (eK (.int 1))) (aC (x5 "Wood" "node" qk (eV 0) (aC (e2s qa (eV 4) (eK (.int 2))) (aC (eV 2) (aC (eV 3) aN)))) aN))))) je) (z5 (qp 5 (zn xy (aC (eV 0) (aC (e2s qa (eV 4) (eK (.int 2))) aN)))) (z5 (qp 6 (x5 "Wood" "node" qk (eV 0) (aC (e2s qa (eV 4) (eK (.int 0))) (aC (e2s qa (eV 4) (eK (.int 1))) (aC (e2s qa (eV 5) (eK (.int 0))) aN))))) (z5 (qp 7 (x5 "Wood" "node" qk (eV 0) (aC (e2s qa (eV 5) (eK (.int 2))) (aC (eV 2) (aC (eV 3) aN))))) (qm (x5 "Wood" "node" qk (eV 0) (aC (eV 6) (aC (e2s qa (eV 5) (eK (.int 1))) (aC (eV 7) aN))))))))))
def zal:G:=z9 8 4 zgt
def zev:C :=
 (z5 (qp 4 (zn xy (aC (eV 0) (aC (eV 3) aN)))) (z5 (sIf (bE (e2 zot (zn jf (aC (e2s qa (eV 4) (eK (.int 2))) aN)) (zn jf (aC (e2s qa (eV 4) (eK (.int 0))) aN)))) (qm (x5 "Wood" "node" qk (eV 0) (aC (x5 "Wood" "node" qk (eV 0) (aC (eV 1) (aC (eV 2) (aC (e2s qa (eV 4) (eK (.int 0))) aN)))) (aC (e2s qa (eV 4) (eK (.int 1))) (aC (e2s qa (eV 4) (eK (.int 2))) aN))))) je) (z5 (qp 5 (zn xy (aC (eV 0) (aC (e2s qa (eV 4) (eK (.int 0))) aN)))) (z5 (qp 6 (x5 "Wood" "node" qk (eV 0) (aC (eV 1) (aC (eV 2) (aC (e2s qa (eV 5) (eK (.int 0))) aN))))) (z5 (qp 7 (x5 "Wood" "node" qk (eV 0) (aC (e2s qa (eV 5) (eK (.int 2))) (aC (e2s qa (eV 4) (eK (.int 1))) (aC (e2s qa (eV 4) (eK (.int 2))) aN))))) (qm (x5 "Wood" "node" qk (eV 0) (aC (eV 6) (aC (e2s qa (eV 5) (eK (.int 1))) (aC (eV 7) aN))))))))))
def yw:G:=z9 8 4 zev
def zmy:C :=
 (z5 (sIf (bE (zn j0 (aC (eV 1) (aC (eV 3) aN)))) (qm (x5 "Wood" "node" qk (eV 0) (aC (eV 1) (aC (eV 2) (aC (eV 3) aN))))) je) (z5 (sIf (bE (e2 zii (zn jf (aC (eV 1) aN)) (zn jf (aC (eV 3) aN)))) (qm (zn zal (aC (eV 0) (aC (eV 1) (aC (eV 2) (aC (eV 3) aN)))))) je) (qm (zn yw (aC (eV 0) (aC (eV 1) (aC (eV 2) (aC (eV 3) aN))))))))
def xq:G:=z9 4 4 zmy
def zs2(self:G):C :=
 (z5 (sIf (bE (zn j0 (aC (eV 1) (aC (eV 3) aN)))) (qm (x5 "Wood" "node" qk (eV 0) (aC (eV 1) (aC (eV 2) (aC (eV 3) aN))))) je) (z5 (sIf (bE (e2 zii (zn jf (aC (eV 1) aN)) (zn jf (aC (eV 3) aN)))) (z5 (qp 4 (zn xy (aC (eV 0) (aC (eV 1) aN)))) (qm (zn xq (aC (eV 0) (aC (e2s qa (eV 4) (eK (.int 0))) (aC (e2s qa (eV 4) (eK (.int 1))) (aC (zn (self) (aC (eV 0) (aC (e2s qa (eV 4) (eK (.int 2))) (aC (eV 2) (aC (eV 3) aN))))) aN))))))) je) (z5 (qp 4 (zn xy (aC (eV 0) (aC (eV 3) aN)))) (qm (zn xq (aC (eV 0) (aC (zn (self) (aC (eV 0) (aC (eV 1) (aC (eV 2) (aC (e2s qa (eV 4) (eK (.int 0))) aN))))) (aC (e2s qa (eV 4) (eK (.int 1))) (aC (e2s qa (eV 4) (eK (.int 2))) aN)))))))))
def ya:Nat->G
 |0=>fun _ _=>none
 |k+1=>z9 5 4 (zs2 (ya k))
def zjr(self:G):C :=
 (z5 (sIf (bE (e2 j7 (eV 2) (eK (.int 0)))) (qm (zb3 (aC (eK .non) (aC (eV 1) aN)))) je) (z5 (sIf (bE (e2 j7 (eV 2) (zn kx (aC (eV 1) aN)))) (qm (zb3 (aC (eV 1) (aC (eK .non) aN)))) je) (z5 (qp 3 (zn xy (aC (eV 0) (aC (eV 1) aN)))) (z5 (qp 4 (zn kx (aC (e2s qa (eV 3) (eK (.int 0))) aN))) (z5 (sIf (bE (e2 ze7 (eV 2) (eV 4))) (z5 (qp 5 (zn (self) (aC (eV 0) (aC (e2s qa (eV 3) (eK (.int 0))) (aC (eV 2) aN))))) (qm (zb3 (aC (e2s qa (eV 5) (eK (.int 0))) (aC (zn (ya 40) (aC (eV 0) (aC (e2s qa (eV 5) (eK (.int 1))) (aC (e2s qa (eV 3) (eK (.int 1))) (aC (e2s qa (eV 3) (eK (.int 2))) aN))))) aN))))) je) (z5 (qp 5 (zn (self) (aC (eV 0) (aC (e2s qa (eV 3) (eK (.int 2))) (aC (e2 zau (e2 zau (eV 2) (eV 4)) (eK (.int 1))) aN))))) (qm (zb3 (aC (zn (ya 40) (aC (eV 0) (aC (e2s qa (eV 3) (eK (.int 0))) (aC (e2s qa (eV 3) (eK (.int 1))) (aC (e2s qa (eV 5) (eK (.int 0))) aN))))) (aC (e2s qa (eV 5) (eK (.int 1))) aN))))))))))
def yj:Nat->G
 |0=>fun _ _=>none
 |k+1=>z9 6 3 (zjr (yj k))
def z1g:C :=
 (z5 (sIf (bE (e2 j7 (e2s qa (eV 0) (eK (.int 1))) (eV 1))) (qm (zb3 (aC (e2s qa (eV 0) (eK (.int 2))) (aC (e2s qa (eV 0) (eK (.int 3))) (aC (e2s qa (eV 0) (eK (.int 4))) (aC (eK (.bl false)) aN)))))) je) (qm (zb3 (aC (e2s qa (eV 0) (eK (.int 4))) (aC (e2s qa (eV 0) (eK (.int 3))) (aC (e2s qa (eV 0) (eK (.int 2))) (aC (eK (.bl true)) aN)))))))
def zhs:G:=z9 2 2 z1g
def zmt(self:G):C :=
 (z5 (qp 3 (zn zhs (aC (eV 0) (aC (eV 1) aN)))) (z5 (qp 4 (zn kx (aC (e2s qa (eV 3) (eK (.int 0))) aN))) (z5 (sIf (bE (e2 zc4 (eV 2) (eV 4))) (qm (zn (self) (aC (e2s qa (eV 3) (eK (.int 0))) (aC (e2s qa (eV 3) (eK (.int 3))) (aC (eV 2) aN))))) je) (z5 (sIf (bE (e2 zii (eV 2) (eV 4))) (qm (zn (self) (aC (e2s qa (eV 3) (eK (.int 2))) (aC (e2s qa (eV 3) (eK (.int 3))) (aC (e2 zau (e2 zau (eV 2) (eV 4)) (eK (.int 1))) aN))))) je) (qm (e2s qa (eV 3) (eK (.int 1))))))))
def xn:Nat->G
 |0=>fun _ _=>none
 |k+1=>z9 5 3 (zmt (xn k))
def zbb(self:G):C :=
 (z5 (sIf (bE (e2 zf1 (eV 1) (eK .non))) (qm (eV 2)) je) (z5 (sIf (bE (e2 zf1 (eV 2) (eK .non))) (qm (eV 1)) je) (qm (zn (ya 40) (aC (eV 0) (aC (eV 1) (aC (zn (xn 40) (aC (eV 2) (aC (eK (.bl false)) (aC (eK (.int 0)) aN)))) (aC (zn (self) (aC (eV 0) (aC (eV 2) (aC (eK (.int 0)) aN)))) aN))))))))
def jr(self:G):G:=z9 3 3 (zbb self)
def zei(self aux:G):C :=
 (z5 (qp 3 (zn xy (aC (eV 0) (aC (eV 1) aN)))) (z5 (qp 4 (zn kx (aC (e2s qa (eV 3) (eK (.int 0))) aN))) (z5 (sIf (bE (e2 zc4 (eV 2) (eV 4))) (qm (zn xq (aC (eV 0) (aC (zn (self) (aC (eV 0) (aC (e2s qa (eV 3) (eK (.int 0))) (aC (eV 2) aN)))) (aC (e2s qa (eV 3) (eK (.int 1))) (aC (e2s qa (eV 3) (eK (.int 2))) aN)))))) je) (z5 (sIf (bE (e2 zii (eV 2) (eV 4))) (qm (zn xq (aC (eV 0) (aC (e2s qa (eV 3) (eK (.int 0))) (aC (e2s qa (eV 3) (eK (.int 1))) (aC (zn (self) (aC (eV 0) (aC (e2s qa (eV 3) (eK (.int 2))) (aC (e2 zau (e2 zau (eV 2) (eV 4)) (eK (.int 1))) aN)))) aN)))))) je) (qm (zn (aux) (aC (eV 0) (aC (e2s qa (eV 3) (eK (.int 0))) (aC (e2s qa (eV 3) (eK (.int 2))) aN)))))))))
def xj:Nat->G
 |0=>fun _ _=>none
 |k+1=>z9 5 3 (zei (xj k) (jr (xj k)))
def yi:G:=jr (xj 40)
def zgs:C :=
 (z5 (zcb (zn yk (aC (eV 1) (aC (eV 2) (aC (eV 3) aN))))) (z5 (qp 4 (zn (yj 40) (aC (eV 0) (aC (eV 1) (aC (eV 3) aN))))) (z5 (qp 5 (zn (yj 40) (aC (eV 0) (aC (e2s qa (eV 4) (eK (.int 0))) (aC (eV 2) aN))))) (z5 (qp 6 (zn yi (aC (eV 0) (aC (e2s qa (eV 5) (eK (.int 0))) (aC (x5 "Wood" "turned" qu (eV 0) (aC (e2s qa (eV 5) (eK (.int 1))) aN)) aN))))) (qm (zn yi (aC (eV 0) (aC (eV 6) (aC (e2s qa (eV 4) (eK (.int 1))) aN)))))))))
def zaj:G:=z9 7 4 zgs
def zmz:C :=
 (z5 (qp 4 (e2 qz (zn zq (aC (eV 0) (aC (eV 1) aN))) (eK (.int 3)))) (z5 (sIf (bE (e2 j7 (eV 4) (eK (.int 0)))) (qm (zn x3 (aC (eV 2) (aC (zlf (aC (eV 3) aN)) aN)))) je) (z5 (sIf (bE (e2 j7 (eV 4) (eK (.int 1)))) (qm (x5 "Wood" "turned" qu (eV 2) (aC (zn x3 (aC (eV 2) (aC (zch (eV 3)) aN))) aN))) je) (z5 (qp 5 (e2 qz (zn zq (aC (eV 0) (aC (e2 qh (eV 1) (eK (.int 1))) aN))) (e2 qh (eA zc7 (aC (eV 3) aN)) (eK (.int 1))))) (z5 (qp 6 (e2 qh (eV 5) (e2 qz (zn zq (aC (eV 0) (aC (e2 qh (eV 1) (eK (.int 2))) aN))) (e2 zau (e2 qh (eA zc7 (aC (eV 3) aN)) (eK (.int 1))) (eV 5))))) (z5 (qp 7 (zch (eSl (eV 3) (pE (eV 5)) (pE (eV 6))))) (qm (zn zaj (aC (eV 2) (aC (zn x3 (aC (eV 2) (aC (e2 qh (e2 qh (eSl (eV 3) pN (pE (eV 5))) (eV 7)) (eSl (eV 3) (pE (eV 6)) pN)) aN))) (aC (eV 5) (aC (eV 6) aN))))))))))))
def kg:G:=z9 8 4 zmz
def zh7:C :=
 (z5 (sIf (zm6 (bE (e2 zc4 (eV 0) (eK (.int 5)))) (bE (e2 j7 (e2 qz (eV 1) (eK (.int 9))) (eK (.int 0))))) (qm (e2 zau (e2 qh (e2 qz (e2 zai (e2 qh (eV 1) (eK (.int 5))) (e2 zdk (eK (.int 982451653)) (eK (.int 6)))) (e2 zau (e2 zai (eK (.int 2)) (e2 zdk (eK (.int 10)) (eK (.int 60)))) (eK (.int 7)))) (eK (.int 1))) (e2 zdk (eK (.int 10)) (eK (.int 60))))) je) (z5 (sIf (bE (e2 zc4 (eV 0) (eK (.int 5)))) (qm (e2 zau (e2 qz (e2 zdl (eV 1) (eK (.int 9))) (eK (.int 81))) (eK (.int 40)))) je) (z5 (qp 2 (eK (.str (Str.ofString "")))) (z5 (zix 3 (e2 qh (eK (.int 1)) (e2 qz (eV 1) (eK (.int 8)))) (qp 2 (e2 qh (eV 2) (e2s qa (eK (.str (Str.ofString "abc"))) (e2 qz (e2 zdl (eV 1) (e2s qa (zb3 (aC (eK (.int 8)) (aC (eK (.int 24)) (aC (eK (.int 72)) (aC (eK (.int 216)) (aC (eK (.int 648)) (aC (eK (.int 1944)) (aC (eK (.int 5832)) (aC (eK (.int 17496)) aN))))))))) (eV 3))) (eK (.int 3))))))) (qm (eV 2))))))
def xr:G:=z9 4 2 zh7
def zgv:C :=
 (sIf (zbq (bE (zhy ze7 zc4 (eK (.int 0)) (eV 0) (eV 1)))) zhc je)
def zan:G:=z9 2 2 zgv
def z6c:C :=
 (z5 (zcb (zn zan (aC (eV 1) (aC (zn kx (aC (eV 0) aN)) aN)))) (qm (zn (xn 40) (aC (eV 0) (aC (eK (.bl false)) (aC (eV 1) aN))))))
def z3h:G:=z9 2 2 z6c
def z1y:E :=
 (e2 zl7 (zn ja (aC (eV 2) (aC (eV 0) aN))) (zn ja (aC (eV 2) (aC (eV 1) aN))))
def z1w:G:=zcs 3 3 z1y
open Classical in
def zmr:LT->Option G:=fun t=>
 if t=lt_0 then some z0e else
 if t=lt_1 then some z1w else
 none
def zgu:C :=
 (qm (zfi (e2 zc4 (eV 1) (zn kx (aC (eV 0) aN))) (zxg (za8 ft zer zmr (eV 3) (aC (eV 2) (aC (zn z3h (aC (eV 0) (aC (eV 1) aN))) aN))))))
def zam:G:=z9 4 4 zgu
def zew(self:G):C :=
 (z5 (sIf (bE (e2 zf1 (eV 0) (eK .non))) (qm (eK (.int 0))) je) (z5 (qp 4 (zn zhs (aC (eV 0) (aC (eV 1) aN)))) (z5 (sIf (bE (za8 ft zer zmr (eV 3) (aC (e2s qa (eV 4) (eK (.int 1))) (aC (eV 2) aN)))) (qm (e2 qh (e2 qh (zn kx (aC (e2s qa (eV 4) (eK (.int 0))) aN)) (eK (.int 1))) (zn (self) (aC (e2s qa (eV 4) (eK (.int 2))) (aC (e2s qa (eV 4) (eK (.int 3))) (aC (eV 2) (aC (eV 3) aN))))))) je) (qm (zn (self) (aC (e2s qa (eV 4) (eK (.int 0))) (aC (e2s qa (eV 4) (eK (.int 3))) (aC (eV 2) (aC (eV 3) aN)))))))))
def kj:Nat->G
 |0=>fun _ _=>none
 |k+1=>z9 5 4 (zew (kj k))
def zmu:C :=
 (qm (zn (kj 40) (aC (eV 0) (aC (eK (.bl false)) (aC (eV 1) (aC (eV 2) aN))))))
def zcp:G:=z9 3 3 zmu
def z3x:C :=
 (qm (zn zam (aC (eV 0) (aC (zn zcp (aC (eV 0) (aC (eV 1) (aC (eV 2) aN)))) (aC (eV 1) (aC (eV 2) aN))))))
def zsf:G:=z9 3 3 z3x
def zs4(self:G):C :=
 (z5 (sIf (bE (e2 zf1 (eV 0) (eK .non))) zyd je) (z5 (qp 3 (zn zhs (aC (eV 0) (aC (eV 1) aN)))) (z5 (zcb (zn (self) (aC (e2s qa (eV 3) (eK (.int 0))) (aC (e2s qa (eV 3) (eK (.int 3))) (aC (eV 2) aN))))) (z5 (xg (eV 2) (e2s qa (eV 3) (eK (.int 1)))) (zcb (zn (self) (aC (e2s qa (eV 3) (eK (.int 2))) (aC (e2s qa (eV 3) (eK (.int 3))) (aC (eV 2) aN)))))))))
def zc9:Nat->G
 |0=>fun _ _=>none
 |k+1=>z9 4 3 (zs4 (zc9 k))
def zeh:C :=
 (z5 (qp 1 (zeu aN)) (z5 (zcb (zn (zc9 40) (aC (eV 0) (aC (eK (.bl false)) (aC (eV 1) aN))))) (qm (eV 1))))
def qt:G:=frz (z9 2 1 zeh)
def zs6:C :=
 (qm (zn x3 (aC (eV 0) (aC (xc [3,2] (zih (zn qt (aC (eV 1) aN))) (bE (zn zsf (aC (eV 2) (aC (eV 0) (aC (eV 1) aN))))) (eV 0)) aN))))
def zgg:G:=z9 4 4 zs6
def zs1:C :=
 (z5 (qp 3 (zeu aN)) (z5 (qp 4 (eK (.int 0))) (z5 (zfv 5 (eV 0) (z5 (zhb 5000 (zm6 (bE (e2 zc4 (eV 4) (eA zc7 (aC (eV 1) aN)))) (bE (za8 ft zer zmr (eV 2) (aC (e2s qa (eV 1) (eV 4)) (aC (eV 5) aN))))) (z5 (xg (eV 3) (e2s qa (eV 1) (eV 4))) (qp 4 (e2 qh (eV 4) (eK (.int 1)))))) (z5 (xg (eV 3) (eV 5)) (sIf (zm6 (bE (e2 zc4 (eV 4) (eA zc7 (aC (eV 1) aN)))) (zbq (bE (za8 ft zer zmr (eV 2) (aC (eV 5) (aC (e2s qa (eV 1) (eV 4)) aN)))))) (qp 4 (e2 qh (eV 4) (eK (.int 1)))) je)))) (qm (e2s zhh (eV 3) (eSl (eV 1) (pE (eV 4)) pN))))))
def zge:G:=frz (z9 6 3 zs1)
def zs5:C :=
 (qm (zn x3 (aC (eV 0) (aC (zn zge (aC (zn qt (aC (eV 1) aN)) (aC (zn qt (aC (eV 2) aN)) (aC (eV 3) aN)))) aN))))
def zgf:G:=z9 4 4 zs5
def z1h:C :=
 (qm (zn x3 (aC (eV 0) (aC (xc [3,2] (zih (zn qt (aC (eV 1) aN))) (zbq (bE (zn zsf (aC (eV 2) (aC (eV 0) (aC (eV 1) aN)))))) (eV 0)) aN))))
def zps:G:=z9 4 4 z1h
def zjs(cl:zLA):C :=
 (z5 (qp 5 (zud 0 "_law_told" { lt_1 with cl:=cl })) (z5 (sIf (bE (e2 j7 (eV 1) (eK (.str (Str.ofString "either"))))) (qm (zea zgf (aC (eV 0) (aC (eV 2) (aC (eV 3) aN))) 5 lt_1 cl [4])) je) (z5 (sIf (bE (e2 j7 (eV 1) (eK (.str (Str.ofString "common"))))) (qm (zea zgg (aC (eV 0) (aC (eV 2) (aC (eV 3) aN))) 5 lt_1 cl [4])) je) (qm (zea zps (aC (eV 0) (aC (eV 2) (aC (eV 3) aN))) 5 lt_1 cl [4])))))
def ym:G:=gA fun cl=>z9 6 5 (zjs cl)
def zmv:C :=
 (qm (zfi (eA zsb (aC (eV 0) (aC (eK (.ty "int")) aN))) (zxg (eA zsb (aC (eV 0) (aC (eK (.ty "bool")) aN))))))
def zbk:G:=z9 1 1 zmv
def zmx:C :=
 (z5 (sIf (bOr (zbq (bE (eA zsb (aC (eV 0) (aC (eK (.ty "tuple")) aN))))) (bE (e2 zi0 (eA zc7 (aC (eV 0) aN)) (eK (.int 9))))) (qm (eK (.bl false))) je) (z5 (sIf (zbq (bE (eA zsb (aC (e2s qa (eV 0) (eK (.int 1))) (aC (eK (.ty "bool")) aN))))) (qm (eK (.bl false))) je) (qm (zfi (zn zbk (aC (e2s qa (eV 0) (eK (.int 0))) aN)) (zfi (zn zbk (aC (e2s qa (eV 0) (eK (.int 5))) aN)) (zn zbk (aC (e2s qa (eV 0) (eK (.int 6))) aN)))))))
def zcq:G:=z9 1 1 zmx
def kz:C :=
 (z5 (qp 1 (e2s qa (eV 0) (eK (.int 2)))) (z5 (qp 2 (e2s qa (eV 0) (eK (.int 4)))) (z5 (sIf (zbq (bE (zn j0 (aC (eV 1) (aC (eV 2) aN))))) (qm (eK (.bl false))) je) (qm (zfi (e2 j7 (e2s qa (eV 0) (eK (.int 5))) (zn ko (aC (eV 1) (aC (eV 2) aN)))) (e2 j7 (e2s qa (eV 0) (eK (.int 6))) (zn xa (aC (eV 1) (aC (eV 2) aN)))))))))
def jg:G:=z9 3 1 kz
def ku:C :=
 (z5 (qp 2 (zn xo (aC (eV 1) (aC (e2s qa (eV 0) (eK (.int 2))) (aC (e2s qa (eV 0) (eK (.int 3))) (aC (e2s qa (eV 0) (eK (.int 4))) aN)))))) (z5 (sIf (bE (e2s qa (eV 0) (eK (.int 1)))) (qm (zfi (e2 j7 (e2s qa (eV 0) (eK (.int 7))) (e2s qa (eV 2) (eK (.int 1)))) (e2 j7 (e2s qa (eV 0) (eK (.int 8))) (e2s qa (eV 2) (eK (.int 0)))))) je) (qm (zfi (e2 j7 (e2s qa (eV 0) (eK (.int 7))) (e2s qa (eV 2) (eK (.int 0)))) (e2 j7 (e2s qa (eV 0) (eK (.int 8))) (e2s qa (eV 2) (eK (.int 1))))))))
def jt:G:=z9 3 2 ku
def zmw(self:G):C :=
 (z5 (sIf (bE (e2 zf1 (eV 0) (eK .non))) (qm (eK (.bl true))) je) (z5 (sIf (zbq (bE (zn zcq (aC (eV 0) aN)))) (qm (eK (.bl false))) je) (z5 (sIf (bOr (zbq (bE (zn (self) (aC (e2s qa (eV 0) (eK (.int 2))) (aC (eV 1) aN))))) (zbq (bE (zn (self) (aC (e2s qa (eV 0) (eK (.int 4))) (aC (eV 1) aN)))))) (qm (eK (.bl false))) je) (qm (zfi (zn jg (aC (eV 0) aN)) (zn jt (aC (eV 0) (aC (eV 1) aN))))))))
def ke:Nat->G
 |0=>fun _ _=>none
 |k+1=>z9 2 2 (zmw (ke k))
end
end Pg
namespace Pg
open PySem L2 F Mt
class Kd (k:Nat):Prop where
 eq:k=0\/k=2
instance:Kd 0:=⟨.inl rfl⟩
instance:Kd 2:=⟨.inr rfl⟩
variable {k:Nat} [Kd k] {S S0 S1:Sto}{ev:Ev}
def y6(k:Nat):D:=match k with
 |2=>.lam lt_2
 |_=>.non
theorem zqw(hk:k≠0):(∃z,y6 k=.fn z)\/∃z,y6 k=.lam z:=by
 rcases Kd.eq (k:=k)with h | h
 · exact absurd h hk
 · subst h;exact .inr ⟨_,rfl⟩
theorem l2:zer lt_2=some z3g:=by unfold zer;rw[z64 rfl]
theorem zw8{f:E}{as:As}{x y:D}{n m:Nat}(hk:k≠0)(h:f ev S=some (y6 k,S))(ha:as ev S=some ([x,y],S))(hx:Th k n x)(hy:Th k m y)(hn:n+m<=4000):zac ft zer f as ev S=some (ad k x y,S):=by
 have hz:sizeLine=16777216:=z7z;unfold zac;rw[h];rcases Kd.eq (k:=k)with e | e
 · exact absurd e hk
 · subst e;obtain⟨i,rfl,h⟩:=hx;obtain⟨j,rfl,h'⟩:=hy;simp only[y6,Option.bind_some,l2,ha];show e2 qh (eV 0) (eV 1) [some (.str i),some (.str j)] S=_;simp[e2,eV,qh,ad,isS,show i.length+j.length<=sizeLine by omega]
end Pg
namespace Pg
open PySem L2 F Mt
variable {k:Nat} [Kd k] {d l r t:D}{ts lt rt:List D}{h lh rh:Nat}{S S1:Sto}{ev e:Ev}
theorem ztk(a b c d e f g h i:D)(S:Sto):kx [.tup [a,b,c,d,e,f,g,h,i]] S=some (f,S):=rfl
theorem zk6(a b c d e f g h i:D)(S:Sto):jf [.tup [a,b,c,d,e,f,g,h,i]] S=some (g,S):=rfl
theorem znm(a b c d e f g h i:D)(S:Sto):zak [.tup [a,b,c,d,e,f,g,h,i]] S=some (h,S):=rfl
theorem zuk(a b c d e f g h i:D)(S:Sto):zd5 [.tup [a,b,c,d,e,f,g,h,i]] S=some (i,S):=rfl
theorem yf(m:Mk k d ts h)(S:Sto):kx [d] S=some (.int ts.length,S):=by
 cases m with
 |non=>rfl
 |node _ _ _ _ _=>rw[mkD,ztk,xx];simp;omega
theorem qo(m:Mk k d ts h)(S:Sto):jf [d] S=some (.int h,S):=by
 cases m with
 |non=>rfl
 |node _ _ _ _ _=>rw[mkD,zk6]
theorem zj8(m:Mk k d ts h)(S:Sto):zak [d] S=some (yc k ts,S):=by
 cases m with
 |non=>rfl
 |node _ _ _ _ _=>rw[mkD,znm]
theorem zqs(m:Mk k d ts h)(S:Sto):zd5 [d] S=some (yc k ts.reverse,S):=by
 cases m with
 |non=>rfl
 |node _ _ _ _ _=>rw[mkD,zuk]
theorem zca(ml:Mk k l lt lh)(mr:Mk k r rt rh)(S:Sto):ko [l,r] S=some (.int (lt.length+1+rt.length:Nat),S):=by simp[ko,z9,zcx,qm,e2,zn,aC,aN,eV,eK,qh,yf ml,yf mr]
theorem za3(ml:Mk k l lt lh)(mr:Mk k r rt rh)(S:Sto):xa [l,r] S=some (.int (max lh rh+1:Nat),S):=by simp[xa,z9,zbu,qm,e2,zn,aC,aN,eV,eK,qh,eA,zzo,qo ml,qo mr];split<;>omega
theorem k9(ml:Mk k l lt lh)(mr:Mk k r rt rh)(S:Sto):j0 [l,r] S=some (.bl (decide (lh<=rh+1/\rh<=lh+1)),S):=by simp[j0,z9,zcy,qm,e2,zn,aC,aN,eV,eK,zau,ze7,F.opI,zr2,eA,zxh,qo ml,qo mr];rw[qbf];simp;split<;>omega
theorem zsa:ju .non .non=some (.bl false):=rfl
theorem zr9(xs:List D):ju (.tup xs) .non=some (.bl true):=rfl
theorem zum{a b:E}{x y:D}{n m:Nat}(hk:k≠0)(h0:ev[0]? = some (some (y6 k)))(ha:a ev S=some (x,S))(hb:b ev S=some (y,S))(hx:Th k n x)(hy:Th k m y)(hn:n+m<=4000):zac ft zer (eV 0) (aC a (aC b aN)) ev S=some (ad k x y,S):=by exact zw8 hk (e_v h0) (a_c ha (a_c hb a_n)) hx hy hn
theorem zlp{gs:G}{w:E->E}{p q:Nat}{x y:D}{xt yt:List D}(hk:k≠0)(ht:Thing k t)(hn:xt.length+1+yt.length<=2000)(hx:∀z∈xt,Thing k z)(hy:∀z∈yt,Thing k z)(ex:x=.non/\xt=[]\/xt≠[]/\∃xs,x=.tup xs)(ey:y=.non/\yt=[]\/yt≠[]/\∃ys,y=.tup ys)
   (ev0:Ev) (S:Sto) (e0:ev0[0]? = some (some (y6 k))) (et:ev0[2]? = some (some t)) (ep:ev0[p]? = some (some x)) (eq:ev0[q]? = some (some y)) (hl:ev0.length=5) (hp:p<4) (hq:q<4) (hx':∀ev:Ev,ev[p]? = some (some x)->w (eV p) ev S=some (yc k xt,S)) (hy':∀ev:Ev,ev[q]? = some (some y)->w (eV q) ev S=some (yc k yt,S)) :
   z5 (qp 4 (eV 2)) (z5 (sIf (bE (e2 ju (eV p) (eK .non))) (qp 4 (zac ft zer (eV 0) (aC (w (eV p)) (aC (eV 4) aN)))) je) (z5 (sIf (bE (e2 ju (eV q) (eK .non))) (qp 4 (zac ft zer (eV 0) (aC (eV 4) (aC (w (eV q)) aN)))) je) (qm (eV 4)))) ev0 S=some (.rt (yc k (xt++t::yt)),S):=by
 have tt:=ht.th hk;have g4:∀(d:D) (i:Nat),i<4->(ev0.set 4 (some d))[i]? = ev0[i]?:=fun d i hi=>z88 (by omega);have s4:∀(ev:Ev) (d:D),ev.length=5->(ev.set 4 (some d))[4]? = some (some d):=fun ev d h=>z7w (by omega);have ss:∀(d e:D),(ev0.set 4 (some d)).set 4 (some e)=ev0.set 4 (some e):=fun d e=>by simp
 have step2:∀(acc:D) (n:Nat),Th k n acc->n+yt.length<=2000->∀{res:D},(yt=[]->res=acc)->(yt≠[]->res=ad k acc (yc k yt)) ->
     z5 (sIf (bE (e2 ju (eV q) (eK .non))) (qp 4 (zac ft zer (eV 0) (aC (eV 4) (aC (w (eV q)) aN)))) je) (qm (eV 4)) (ev0.set 4 (some acc)) S=some (.rt res,S):=by
   intro acc n ha hb res r1 r2;rcases ey with⟨e1,e2'⟩ | ⟨e1,ys,e2'⟩
   · rw[r1 e2'];exact zh (zo (qj (e_2 (e_v (by rw[g4 _ _ hq,eq])) e_k (by rw[e1];rfl)))) (zw (e_v (s4 _ _ hl)))
   · rw[r2 e1];refine zh (z8 (qj (e_2 (e_v (by rw[g4 _ _ hq,eq])) e_k (by rw[e2'];rfl))) (zv (zum hk (by rw[g4 _ _ (by decide),e0]) (e_v (s4 _ _ hl)) (hy' _ (by rw[g4 _ _ hq,eq])) ha (zdi hk e1 hy) (by omega)))) (zw (e_v ?_));rw[ss];exact s4 _ _ hl
 refine zh (zv (e_v et)) ?_;rcases ex with⟨e1,e2'⟩ | ⟨e1,xs,e2'⟩
 · subst e2';refine zh (zo (qj (e_2 (e_v (by rw[g4 _ _ hp,ep])) e_k (by rw[e1];rfl)))) (step2 t 1 tt (by simp at hn;omega) (fun z=>by rw[z,List.nil_append,zb8 hk]) fun z=>?_);rw[List.nil_append,show t::yt=[t]++yt from rfl,zag hk (by simp) z,zb8 hk]
 · have t1:=zdi hk e1 hx;have e3:yc k (xt++[t])=ad k (yc k xt) t:=by rw[zag hk e1 (by simp),zb8 hk]
   refine zh (z8 (qj (e_2 (e_v (by rw[g4 _ _ hp,ep])) e_k (by rw[e2'];rfl))) (zv (zum hk (by rw[g4 _ _ (by decide),e0]) (hx' _ (by rw[g4 _ _ hp,ep])) (e_v (s4 _ _ hl)) t1 tt (by omega)))) ?_;rw[ss];exact step2 _ _ (t1.ad tt) (by omega) (fun z=>by rw[z,e3]) fun z=>by rw[show xt++t::yt=(xt++[t])++yt by simp,zag hk (by simp) z,e3]
theorem zkt{xs:List D}(m:Mk k d ts h):d=.non/\ts=[]\/ts≠[]/\∃xs,d=.tup xs:=by
 cases m with
 |non=>exact .inl ⟨rfl,rfl⟩
 |node _ _ _ _ _=>exact .inr ⟨by intro z;have:=z8y List.length z;rw[xx]at this;simp at this,_,rfl⟩
theorem zou(hk:k≠0)(ml:Mk k l lt lh)(mr:Mk k r rt rh)(ht:Thing k t)(hn:lt.length+1+rt.length<=2000)(S:Sto) :
   za4 [y6 k,l,t,r] S=some (yc k (lt++t::rt),S) :=
 jq rfl (zlp (w:=fun x=>zn zak (aC x aN)) (p:=1) (q:=3) (gs:=zak) hk ht hn ml.things mr.things (zkt (xs:=[]) ml) (zkt (xs:=[]) mr) _ S rfl rfl rfl rfl rfl (by decide) (by decide) (fun ev h=>zj (a_c (e_v h) a_n) (zj8 ml S)) (fun ev h=>zj (a_c (e_v h) a_n) (zj8 mr S)))
theorem zjy(hk:k≠0)(ml:Mk k l lt lh)(mr:Mk k r rt rh)(ht:Thing k t)(hn:lt.length+1+rt.length<=2000)(S:Sto) :
   yx [y6 k,l,t,r] S=some (yc k (lt++t::rt).reverse,S):=by
 have rev:(lt++t::rt).reverse=rt.reverse++t::lt.reverse:=by simp
 have no:∀{d:D}{ts:List D},(d=.non/\ts=[]\/ts≠[]/\∃xs,d=.tup xs)->(d=.non/\ts.reverse=[]\/ts.reverse≠[]/\∃xs,d=.tup xs):=fun h=>by simpa using h
 rw[rev];exact jq rfl (zlp (w:=fun x=>zn zd5 (aC x aN)) (p:=3) (q:=1) (gs:=zak) hk ht (by simp;omega) (fun z hz=>mr.things z (z86.mp hz)) (fun z hz=>ml.things z (z86.mp hz)) (no (zkt (xs:=[]) mr)) (no (zkt (xs:=[]) ml)) _ S rfl rfl rfl rfl rfl (by decide) (by decide) (fun ev h=>zj (a_c (e_v h) a_n) (zqs mr S)) (fun ev h=>zj (a_c (e_v h) a_n) (zqs ml S)))
theorem zb7(ml:Mk k l lt lh)(mr:Mk k r rt rh)(ht:Thing k t)(hn:lt.length+1+rt.length<=2000)(S:Sto) :
   xo [y6 k,l,t,r] S=some (.tup [yc k (lt++t::rt),yc k (lt++t::rt).reverse],S):=by
 by_cases hk:k=0
 · subst hk;simp[xo,z9,zba,y6,z5,sIf,qm,bE,e2,eV,eK,zf1,zpi,zb3,eA,aC,aN,ztf,zax]
 · have o:=zou hk ml mr ht hn;have b:=zjy hk ml mr ht hn;rcases zqw (k:=k) hk with⟨zz,hav⟩ | ⟨zz,hav⟩<;>rw[hav]at o b ⊢<;>simp only[xo,z9,zba] <;>
   simp[z5,sIf,qm,je,bE,e2,eV,eK,zf1,zpi,zb3,eA,aC,aN,ztf,zn,o,b]
def wd(ad:D)(n:Int):MO:=.ins "Wood" [("adding",ad),("nodes_made",.int n)]
theorem na:((Str.ofString "nodes_made")==(Str.ofString "adding"))=false:=by decide +kernel
theorem na':¬ (Str.ofString "adding"=Str.ofString "nodes_made"):=by decide +kernel
theorem na2:((Str.ofString "numbered")==(Str.ofString "adding"))=false:=by decide +kernel
theorem na3:((Str.ofString "numbered")==(Str.ofString "nodes_made"))=false:=by decide +kernel
theorem na4:((Str.ofString "node")==(Str.ofString "adding"))=false:=by decide +kernel
theorem na5:((Str.ofString "node")==(Str.ofString "nodes_made"))=false:=by decide +kernel
theorem na6:((Str.ofString "made")==(Str.ofString "adding"))=false:=by decide +kernel
theorem na7:((Str.ofString "made")==(Str.ofString "nodes_made"))=false:=by decide +kernel
theorem na8:((Str.ofString "turned")==(Str.ofString "adding"))=false:=by decide +kernel
theorem na9:((Str.ofString "turned")==(Str.ofString "nodes_made"))=false:=by decide +kernel
theorem zdn{i:Nat}{av:D}{n:Int}{xs:List D}(h:S[i]? = some (wd av n))(hl:1+xs.length<=sizeLine) :
   j5 [.obj i,.tup xs] S=some (.tup (.int n::xs),S.set i (wd av (n+1))):=by
 have h1:(1:Nat)<=sizeLine:=by decide
 unfold wd at h ⊢;simp[j5,z9,zbc,z5,qp,zuf,eV,zc1,h,zl1,e2,qh,eK,qm,zb3,aC,aN,eA,ztr,List.lookup,na,na',hl,h1]
theorem zv1{i:Nat}{av:D}{n:Int}(h:S[i]? = some (wd av n)):kh [.obj i] S=some (.int n,S):=by unfold wd at h;simp[kh,z9,zek,zuf,eV,zc1,h,qm,List.lookup,na]
def wfs(av:D)(n:Int):List (Str×D):=[("adding",av),("nodes_made",.int n)]
theorem qv{i:Nat}{av:D}{n:Int}(h:S[i]? = some (wd av n)):zc1 (Str.ofString "Wood") S (.obj i)=some (i,wfs av n):=by simp[zc1,h,wd,wfs]
theorem x8(av:D)(n:Int):(wfs av n).lookup (Str.ofString "node")=none:=by simp[wfs,List.lookup,na4,na5]
theorem zb4(av:D)(n:Int):(wfs av n).lookup (Str.ofString "turned")=none:=by simp[wfs,List.lookup,na8,na9]
theorem zup(av:D)(n:Int):(wfs av n).lookup (Str.ofString "made")=none:=by simp[wfs,List.lookup,na6,na7]
theorem zne(av:D)(n:Int):(wfs av n).lookup (Str.ofString "adding")=some av:=by simp[wfs,List.lookup]
theorem zdh(av:D)(n:Int):(wfs av n).lookup (Str.ofString "numbered")=none:=by simp[wfs,List.lookup,na2,na3]
theorem zbv{f:E}(h:f ev S=some (d,S1)):zcb f ev S=some (.nx ev,S1):=by simp[zcb,h]
theorem z13{N n:Nat}{c:C}{ds:List D}{S S':Sto}{e:Ev}(hl:ds.length=n)(h:c (ds.map some++List.replicate (N-ds.length) none) S=some (.nx e,S')):z9 N n c ds S=some (.non,S'):=by unfold z9;rw[z64 hl,h]
theorem z3f{x y:Int}(h:x<=y):zii (.int x) (.int y)=some (.bl false):=by show some (D.bl (decide (y<x)))=_;rw[z60 (by omega)]
theorem zn2{m:Nat}(h:m<=2000)(S:Sto):yq [.int m] S=some (.non,S):=z13 rfl (zo (qj (e_2 (e_v rfl) e_k (z3f (by omega)))))
theorem zvx{i:Nat}{n:Int}(h:S[i]? = some (wd (y6 k) n))(ml:Mk k l lt lh)(mr:Mk k r rt rh)(ht:Thing k t)(h1:lh<=rh+1)(h2:rh<=lh+1)(hn:lt.length+1+rt.length<=2000) :
   qk [.obj i,l,t,r] S=some (mkD n false l t r (lt.length+1+rt.length:Nat) (max lh rh+1:Nat) (yc k (lt++t::rt)) (yc k (lt++t::rt).reverse),S.set i (wd (y6 k) (n+1))):=by
 have hz:sizeLine=16777216:=z7z;have q:=zca ml mr S;have b:=k9 ml mr S;have hh:=za3 ml mr S;have sa:=zb7 ml mr ht hn S;rw[z68 (show lh<=rh+1/\rh<=lh+1 from⟨h1,h2⟩)]at b;exact jq rfl (zh (zv (zj (a_c (e_v rfl) (a_c (e_v rfl) a_n)) q)) (zh (zbv (zj (a_c (e_v rfl) a_n) (zn2 hn S))) (zh (zo (zq2 (qj (zj (a_c (e_v rfl) (a_c (e_v rfl) a_n)) b)))) (zh (zv (zbp (a_c (e_v rfl) (a_c (zj (a_c (e_v rfl) (a_c (e_v rfl) a_n)) hh) a_n)) (by simp))) (zh (zv (zj (a_c (z3s (e_v rfl) (qv h) (zne _ _)) (a_c (e_v rfl) (a_c (e_v rfl) (a_c (e_v rfl) a_n)))) sa)) (zw (x4 (e_v rfl) (qv h) (zdh _ _) (a_c (e_2 (e_2 (zbp (a_c e_k (a_c (e_v rfl) (a_c (e_v rfl) (a_c (e_v rfl) a_n)))) (by simp)) (e_v rfl) (zg0 (by simp))) (e_v rfl) (zg0 (by simp))) a_n) (zdn h (by simp;omega)))))))))
theorem zvy{n:Int}(ml:Mk k l lt lh)(mr:Mk k r rt rh)(ht:Thing k t)(h1:lh<=rh+1)(h2:rh<=lh+1) :
   Mk k (mkD n false l t r (lt.length+1+rt.length:Nat) (max lh rh+1:Nat) (yc k (lt++t::rt)) (yc k (lt++t::rt).reverse)) (lt++t::rt) (max lh rh+1):=by
 have:=Mk.node (num:=n) (a:=false) ml mr ht h1 h2;simpa [ord] using this
theorem zlq{i:Nat}:qu [.obj i,.non] S=some (.non,S):=rfl
theorem zq6{i:Nat}{n num:Int}{av:D}{a:Bool}{sz ht:Int}{to ba:D}(h:S[i]? = some (wd av n)) :
   qu [.obj i,mkD num a l t r sz ht to ba] S=some (mkD n (!a) l t r sz ht ba to,S.set i (wd av (n+1))):=by
 have hz:sizeLine=16777216:=z7z;unfold mkD;exact jq rfl (zh (zo (qj (e_2 (e_v rfl) e_k rfl))) (zh (zv (zbp (a_c (qw (e_v rfl) e_k rfl) (a_c (qw (e_v rfl) e_k rfl) (a_c (qw (e_v rfl) e_k rfl) a_n))) (by simp))) (zw (x4 (e_v rfl) (qv h) (zdh _ _) (a_c (e_2 (e_2 (zbp (a_c (z0z (qw (e_v rfl) e_k rfl)) a_n) (by simp)) (e_v rfl) (zg0 (by simp))) (zbp (a_c (zj (a_c (e_v rfl) a_n) (ztk _ _ _ _ _ _ _ _ _ _)) (a_c (zj (a_c (e_v rfl) a_n) (zk6 _ _ _ _ _ _ _ _ _ _)) (a_c (zj (a_c (e_v rfl) a_n) (zuk _ _ _ _ _ _ _ _ _ _)) (a_c (zj (a_c (e_v rfl) a_n) (znm _ _ _ _ _ _ _ _ _ _)) a_n)))) (by simp)) (zg0 (by simp))) a_n) (zdn h (by simp;omega))))))
theorem znh{num n:Int}{a:Bool}{sz ht:Int}{to ba:D}(m:Mk k (mkD num a l t r sz ht to ba) ts h):Mk k (mkD n (!a) l t r sz ht ba to) ts.reverse h:=by
 generalize hd:mkD num a l t r sz ht to ba=d at m;cases m with
 |non=>cases hd
 | @node num' a' l' t' r' lt rt lh rh ml mr ht' h1 h2=>
   unfold mkD at hd;injection hd with hd;simp only[z84,D.int.injEq,D.bl.injEq,and_true]at hd;obtain⟨rfl,rfl,rfl,rfl,rfl,rfl,rfl,rfl,rfl⟩:=hd;have:=Mk.node (num:=n) (a:=!a) ml mr ht' h1 h2;have e:ord (!a) (lt++t::rt)=(ord a (lt++t::rt)).reverse:=by cases a<;>simp[ord]
   rw[e,z89]at this;exact this
theorem zwl(num:Int)(a:Bool)(l t r:D)(sz ht:Int)(to ba:D)(S:Sto):zcq [mkD num a l t r sz ht to ba] S=some (.bl true,S):=rfl
theorem zi7{num:Int}{a:Bool}{to ba:D}(ml:Mk k l lt lh)(mr:Mk k r rt rh)(h1:lh<=rh+1)(h2:rh<=lh+1)(S:Sto) :
   jg [mkD num a l t r (lt.length+1+rt.length:Nat) (max lh rh+1:Nat) to ba] S=some (.bl true,S):=by
 have q:=zca ml mr;have b:=k9 ml mr;have hh:=za3 ml mr;have hb:decide (lh<=rh+1/\rh<=lh+1)=true:=by simp;omega
 rw[hb]at b;generalize ((lt.length+1+rt.length:Nat):Int)=z at q ⊢;generalize ((max lh rh+1:Nat):Int)=y at hh ⊢;unfold mkD;simp[jg,z9,kz,z5,qp,sIf,qm,je,bE,zbq,e2,e2s,eV,eK,zn,aC,aN,qa,zwa,zv9,z3b,z3a,b,q,hh,zfi,zff]
theorem zu0{num:Int}{a:Bool}{sz hh:Int}(ml:Mk k l lt lh)(mr:Mk k r rt rh)(ht:Thing k t)(hn:lt.length+1+rt.length<=2000)(S:Sto) :
   jt [mkD num a l t r sz hh (yc k (ord a (lt++t::rt))) (yc k (ord a (lt++t::rt)).reverse),y6 k] S=some (.bl true,S):=by
 have sa:=zb7 ml mr ht hn;have th:∀x∈lt++t::rt,Thing k x:=fun x hx=>by
   rcases z62.mp hx with q | q
   · exact ml.things x q
   · rcases z6n.mp q with rfl | q
     · exact ht
     · exact mr.things x q
 have e1:=zt9 th;have e2':=zt9 (k:=k) (ts:=(lt++t::rt).reverse) fun x hx=>th x (z86.mp hx);have i0:∀x y:D,atI [x,y] (0:Int)=some x:=fun _ _=>rfl;have i1:∀x y:D,atI [x,y] (1:Int)=some y:=fun _ _=>rfl;cases a
 · simp only[ord,z7c,z8d];generalize yc k (lt++t::rt)=s1 at sa e1 ⊢;generalize yc k (lt++t::rt).reverse=s2 at sa e2' ⊢;unfold mkD;simp only[jt,z9,ku];simp[z5,qp,sIf,qm,je,bE,zbq,e2,e2s,eV,eK,zn,aC,aN,qa,z0b,zwa,z0a,zv9,zz9,zz8,sa,zfi,e1,e2',i0,i1]
 · simp only[ord,z8f,z89];generalize yc k (lt++t::rt)=s1 at sa e1 ⊢;generalize yc k (lt++t::rt).reverse=s2 at sa e2' ⊢;unfold mkD;simp only[jt,z9,ku];simp[z5,qp,sIf,qm,je,bE,zbq,e2,e2s,eV,eK,zn,aC,aN,qa,z0b,zwa,z0a,zv9,zz9,zz8,sa,zfi,e1,e2',i0,i1]
theorem zja(m:Mk k d ts h):∀{n:Nat},h<n->ts.length<=2000->∀S,ke n [d,y6 k] S=some (.bl true,S):=by
 induction m with
 | non=>
   intro n hn _ S;cases n with
   |zero=>omega
   |succ n=>rfl
 | @node num a l t r lt rt lh rh ml mr ht h1 h2 il ir=>
   intro n hn hl S;cases n with
   |zero=>omega
   | succ n=>
     rw[xx]at hl;simp only[z6k,List.length_cons]at hl;have el:=il (n:=n) (by omega) (by omega) S;have er:=ir (n:=n) (by omega) (by omega) S;have me:=zi7 (num:=num) (a:=a) (t:=t) (to:=yc k (ord a (lt++t::rt))) (ba:=yc k (ord a (lt++t::rt)).reverse) ml mr h1 h2 S;have su:=zu0 (num:=num) (a:=a) (sz:=(lt.length+1+rt.length:Nat)) (hh:=(max lh rh+1:Nat)) ml mr ht (by omega) S;have fo:=zwl num a l t r (lt.length+1+rt.length:Nat) (max lh rh+1:Nat) (yc k (ord a (lt++t::rt))) (yc k (ord a (lt++t::rt)).reverse) S;unfold mkD at me su fo ⊢;exact jq rfl (zh (zo (qj (e_2 (e_v rfl) e_k rfl))) (zh (zo (zq2 (qj (zj (a_c (e_v rfl) a_n) fo)))) (zh (zo (zs7 (zq2 (qj (zj (a_c (qw (e_v rfl) e_k rfl) (a_c (e_v rfl) a_n)) el))) (zq2 (qj (zj (a_c (qw (e_v rfl) e_k rfl) (a_c (e_v rfl) a_n)) er))))) (zw (zle (zj (a_c (e_v rfl) a_n) me) (zj (a_c (e_v rfl) (a_c (e_v rfl) a_n)) su))))))
theorem znd(S:Sto)(av:D):jd [.obj S.length,av] (S++[.ins (Str.ofString "Wood") []])=some (.non,S++[wd av 0]):=by
 have q1:(S++[MO.ins (Str.ofString "Wood") []])[S.length]? = some (MO.ins (Str.ofString "Wood") []):=by simp
 have q2:∀a b:MO,(S++[a]).set S.length b=S++[b]:=by intro a b;simp
 have q3:∀a:MO,(S++[a])[S.length]? = some a:=by intro a;simp
 simp[jd,z9,zbd,z5,zl1,eV,eK,zc1,ztr,na',wd,q1,q2,q3]
theorem zxn{g:E}{av:D}(h:g ev S=some (av,S)):zmm (Str.ofString "Wood") jd (aC g aN) ev S=some (.obj S.length,S++[wd av 0]):=by simp[zmm,aC,aN,h,znd]
theorem zzp{i w:Nat}{av:D}{n:Int}(he:ev[w]? = some (some (.obj i)))(h:S[i]? = some (wd av n)):x5 (Str.ofString "Wood") (Str.ofString "made") kh (eV w) aN ev S=some (.int n,S):=by simp[x5,eV,he,qv h,zup,aN,zv1 h]
inductive Tnd (n:Int):D->D->Int->Prop where
 |non:Tnd n .non .non n
 |node {num:Int}{a:Bool}{l t r:D}{sz ht:Int}{to ba:D}:Tnd n (mkD num a l t r sz ht to ba) (mkD n (!a) l t r sz ht ba to) (n+1)
structure At (S S':Sto) (i:Nat) (av:D) (n n':Int):Prop where
 at_:S'[i]? = some (wd av n')
 le:n<=n'
 ne:∀j,j≠i->S'[j]? = S[j]?
 len:S'.length=S.length
theorem At.refl{i:Nat}{av:D}{n:Int}(h:S[i]? = some (wd av n)):At S S i av n n:=⟨h,Int.le_refl _,fun _ _=>rfl,rfl⟩
theorem At.set{i:Nat}{av:D}{n n':Int}(h:S[i]? = some (wd av n))(hn:n<=n'):At S (S.set i (wd av n')) i av n n':=⟨znz h,hn,fun j hj=>zx9 (z9m hj) _,by simp⟩
theorem At.trans {S2:Sto}{i:Nat}{av:D}{n n' n'':Int} (a:At S S1 i av n n') (b:At S1 S2 i av n' n''):At S S2 i av n n'':=⟨b.at_,Int.le_trans a.le b.le,fun j hj=>(b.ne j hj).trans (a.ne j hj),b.len.trans a.len⟩
theorem zcm{i:Nat}{av:D}{n:Int}(m:Mk k d ts h)(hw:S[i]? = some (wd av n)):∃d' n' S',qu [.obj i,d] S=some (d',S')/\Mk k d' ts.reverse h/\Tnd n d d' n'/\At S S' i av n n':=by
 have m0:=m;cases m with
 |non=>exact⟨.non,n,S,zlq,.non,.non,At.refl hw⟩
 |node ml mr ht h1 h2=>exact⟨_,_,_,zq6 hw,znh m0,.node,At.set hw (by omega)⟩
theorem zr0{i:Nat}{n num:Int}{av:D}{a:Bool}{sz ht:Int}{to ba:D}(m:Mk k (mkD num a l t r sz ht to ba) ts h)(hw:S[i]? = some (wd av n)) :
   ∃x y n' S' xt yt xh yh,xy [.obj i,mkD num a l t r sz ht to ba] S=some (.tup [x,t,y],S')/\At S S' i av n n'/\Mk k x xt xh/\Mk k y yt yh/\ts=xt++t::yt/\h=max xh yh+1/\xh<=yh+1/\yh<=xh+1/\Thing k t /\
     ((a=false/\x=l/\y=r/\n'=n/\S'=S)\/(a=true/\∃n1,Tnd n r x n1/\Tnd n1 l y n')):=by
 have hs:(3:Nat)<=16777216:=by decide
 generalize hd:mkD num a l t r sz ht to ba=d at m;cases m with
 |non=>cases hd
 | @node num' a' l' t' r' lt rt lh rh ml mr ht' h1 h2=>
   unfold mkD at hd;injection hd with hd;simp only[z84,D.int.injEq,D.bl.injEq,and_true]at hd;obtain⟨rfl,rfl,rfl,rfl,rfl,rfl,rfl,rfl,rfl⟩:=hd;generalize ((lt.length+1+rt.length:Nat):Int)=sz;generalize ((max lh rh+1:Nat):Int)=hh;generalize yc k (ord a (lt++t::rt))=to;generalize yc k (ord a (lt++t::rt)).reverse=ba;cases a
   · refine⟨l,r,n,S,lt,rt,lh,rh,?_,At.refl hw,ml,mr,rfl,rfl,h1,h2,ht',.inl ⟨rfl,rfl,rfl,rfl,rfl⟩⟩;rfl
   · obtain⟨x,n1,S1,c1,mx,t1,w1⟩:=zcm mr hw;obtain⟨y,n2,S2,c2,my,t2,w2⟩:=zcm ml w1.at_;refine⟨x,y,n2,S2,rt.reverse,lt.reverse,rh,lh,?_,w1.trans w2,mx,my,by simp[ord],by rw[Nat.max_comm],h2,h1,ht',.inr ⟨rfl,n1,t1,t2⟩⟩;have f0:zbq (bE (e2s qa (eV 1) (eK (.int 1)))) [some (.obj i),some (.tup [.int num,.bl true,l,t,r,.int sz,.int hh,to,ba]),none,none] S=some (false,S):=rfl;have f1:qp 2 (x5 "Wood" "turned" qu (eV 0) (aC (e2s qa (eV 1) (eK (.int 4))) aN)) [some (.obj i),some (.tup [.int num,.bl true,l,t,r,.int sz,.int hh,to,ba]),none,none] S=some (.nx [some (.obj i),some (.tup [.int num,.bl true,l,t,r,.int sz,.int hh,to,ba]),some x,none],S1) :=
       zv (x4 (e_v rfl) (qv hw) (zb4 _ _) (a_c (qw (e_v rfl) e_k rfl) a_n) c1)
     have f2:qp 3 (x5 "Wood" "turned" qu (eV 0) (aC (e2s qa (eV 1) (eK (.int 2))) aN)) [some (.obj i),some (.tup [.int num,.bl true,l,t,r,.int sz,.int hh,to,ba]),some x,none] S1=some (.nx [some (.obj i),some (.tup [.int num,.bl true,l,t,r,.int sz,.int hh,to,ba]),some x,some y],S2) :=
       zv (x4 (e_v rfl) (qv w1.at_) (zb4 _ _) (a_c (qw (e_v rfl) e_k rfl) a_n) c2)
     have f3:qm (zb3 (aC (eV 2) (aC (e2s qa (eV 1) (eK (.int 3))) (aC (eV 3) aN)))) [some (.obj i),some (.tup [.int num,.bl true,l,t,r,.int sz,.int hh,to,ba]),some x,some y] S2=some (.rt (.tup [x,t,y]),S2):=by unfold qm;rw[zbp (a_c (e_v rfl) (a_c (qw (e_v rfl) e_k rfl) (a_c (e_v rfl) a_n))) (by simp)];rfl
     simp only[xy,z9,zqn,mkD];simp only[List.length_cons,List.length_nil,Nat.reduceAdd,z8f,z65,List.map_nil,Nat.reduceSub,List.replicate,List.cons_append,List.nil_append];simp only[z5,sIf,f0,Option.bind_some,z7c,z8d,je,f1,f2,f3]
end Pg
namespace Pg
open PySem L2 F Mt
variable {k:Nat} [Kd k] {d l r t x y:D}{ts lt rt:List D}{h lh rh i:Nat}{n:Int}{S S0 S1:Sto}{ev e:Ev}{P Q:D->Prop}{a b new:List D}
def num:D->Int
 | .tup (.int n::_)=>n
 |_=>0
inductive All (P:D->Prop):D->Prop where
 |non:All P .non
 |node {m:Int}{a:Bool}{l t r:D}{sz ht:Int}{to ba:D}:P (mkD m a l t r sz ht to ba)->All P l->All P r->All P (mkD m a l t r sz ht to ba)
theorem All.inv{m:Int}{a:Bool}{sz ht:Int}{to ba:D}(h:All P (mkD m a l t r sz ht to ba)):All P l/\All P r:=by
 generalize e:mkD m a l t r sz ht to ba=d at h;cases h with
 |non=>cases e
 | node _ b c=>
   unfold mkD at e;injection e with e;simp only[z84,and_true]at e;obtain⟨_,_,rfl,_,rfl,_⟩:=e;exact⟨b,c⟩
theorem All.mono(h:All P d)(f:∀v,P v->Q v):All Q d:=by
 induction h with
 |non=>exact .non
 |node a _ _ b c=>exact .node (f _ a) b c
def Ac(P:D->Prop)(n:Int)(new:List D)(v:D):Prop:=P v\/∃j:Nat,new[j]? = some v/\num v=n+j
theorem Ac.app{v:D}(h:Ac P n a v):Ac P n (a++b) v:=h.imp id fun⟨j,h1,h2⟩=>⟨j,by rw[z7d (z6o.mp h1).1,h1],h2⟩
theorem Ac.two{v:D}(h:Ac (Ac P n a) (n+a.length) b v):Ac P n (a++b) v:=by
 rcases h with h | ⟨j,h1,h2⟩
 · exact h.app
 · exact .inr ⟨a.length+j,by rw[z6y (z63 _ _),z8u,h1],by omega⟩
theorem All.old(h:All P d):All (Ac P n a) d:=h.mono fun _=>.inl
theorem All.app(h:All (Ac P n a) d):All (Ac P n (a++b)) d:=h.mono fun _=>Ac.app
theorem All.two(h:All (Ac (Ac P n a) (n+a.length) b) d):All (Ac P n (a++b)) d:=h.mono fun _=>Ac.two
abbrev Wt(k i:Nat)(S:Sto)(n:Int)(new:List D)(S':Sto):Prop:=At S S' i (y6 k) n (n+new.length)
theorem Wt.nil(hw:S[i]? = some (wd (y6 k) n)):Wt k i S n [] S:=by have:=At.refl hw;unfold Wt;rw[show n+(([]:List D).length:Int)=n from qb9 n];exact this
theorem Wt.two(w:Wt k i S0 n a S)(w':Wt k i S (n+a.length) b S1):Wt k i S0 n (a++b) S1:=by
 have:=At.trans w w';have e:n+(a.length:Int)+b.length=n+((a++b).length:Nat):=by rw[z6k];omega
 unfold Wt;rw[<-e];exact this
structure Top (a b h:Nat):Prop where
 l:a<h
 r:b<h
 e:h=a+1\/h=b+1
theorem zio(a b:Nat):Top a b (max a b+1):=⟨by omega,by omega,by omega⟩
structure Res (k i:Nat) (S:Sto) (n:Int) (P:D->Prop) (ts:List D) (d:D) (h:Nat) (new:List D) (S':Sto):Prop where
 mm:Mk k d ts h
 wt:Wt k i S n new S'
 all:All (Ac P n new) d
theorem Res.after(w:Wt k i S0 n a S)(r:Res k i S (n+a.length) (Ac P n a) ts d h new S1):Res k i S0 n P ts d h (a++new) S1:=⟨r.mm,w.two r.wt,r.all.two⟩
theorem y7(hw:S[i]? = some (wd (y6 k) n))(ml:Mk k l lt lh)(mr:Mk k r rt rh)(ht:Thing k t)(h1:lh<=rh+1)(h2:rh<=lh+1)(hn:lt.length+1+rt.length<=2000)(al:All P l)(ar:All P r) :
   ∃d S' h,qk [.obj i,l,t,r] S=some (d,S')/\Res k i S n P (lt++t::rt) d h [d] S'/\Top lh rh h :=
 ⟨_,_,_,zvx hw ml mr ht h1 h2 hn,⟨zvy ml mr ht h1 h2,At.set hw (by omega),.node (.inr ⟨0,rfl,(qb9 n).symm⟩) al.old ar.old⟩,zio _ _⟩
theorem Tnd.ac{d':D}{n1:Int}(t:Tnd n d d' n1)(a:All P d):∃new:List D,n1=n+new.length/\All (Ac P n new) d'/\new.length<=1:=by
 cases t with
 |non=>exact⟨[],(qb9 n).symm,.non,by simp⟩
 |node=>exact⟨[_],rfl,.node (.inr ⟨0,rfl,(qb9 n).symm⟩) a.inv.1.old a.inv.2.old,by simp⟩
theorem zj6(m:Mk k d ts h)(hw:S[i]? = some (wd (y6 k) n))(al:All P d):∃d' new S',qu [.obj i,d] S=some (d',S')/\Res k i S n P ts.reverse d' h new S'/\new.length<=1:=by obtain⟨d',n',S',c,m',t,w⟩:=zcm m hw;obtain⟨new,rfl,al',hl⟩:=t.ac al;exact⟨d',new,S',c,⟨m',w,al'⟩,hl⟩
structure Pts (k i:Nat) (S:Sto) (n:Int) (P:D->Prop) (ts:List D) (h:Nat) (x t y:D) (xt yt:List D) (xh yh:Nat) (new:List D) (S':Sto):Prop where
 wt:Wt k i S n new S'
 mx:Mk k x xt xh
 my:Mk k y yt yh
 ht:Thing k t
 hts:ts=xt++t::yt
 hh:Top xh yh h
 h1:xh<=yh+1
 h2:yh<=xh+1
 ax:All (Ac P n new) x
 ay:All (Ac P n new) y
 few:new.length<=2
theorem zaz(m:Mk k d ts h)(hh:0<h)(hw:S[i]? = some (wd (y6 k) n))(al:All P d) :
   ∃x t y xt yt xh yh new S',xy [.obj i,d] S=some (.tup [x,t,y],S')/\Pts k i S n P ts h x t y xt yt xh yh new S':=by
 have m0:=m;cases m with
 |non=>omega
 | @node num a l t r lt rt lh rh ml mr ht h1 h2=>
   obtain⟨x,y,n',S',xt,yt,xh,yh,c,w,mx,my,e1,e2,q1,q2,q3,q⟩:=zr0 m0 hw;rcases q with⟨_,rfl,rfl,rfl,rfl⟩ | ⟨_,n1,t1,t2⟩
   · exact⟨x,t,y,xt,yt,xh,yh,[],_,c,⟨Wt.nil hw,mx,my,q3,e1,e2▸zio _ _,q1,q2,al.inv.1.old,al.inv.2.old,by simp⟩⟩
   · obtain⟨a1,rfl,b1,c1⟩:=t1.ac al.inv.2;obtain⟨a2,rfl,b2,c2⟩:=t2.ac (al.inv.1.old (n:=n) (a:=a1));refine⟨x,t,y,xt,yt,xh,yh,a1++a2,S',c,⟨?_,mx,my,q3,e1,e2▸zio _ _,q1,q2,b1.app,b2.two,by rw[z6k];omega⟩⟩;have e:n+(a1.length:Int)+a2.length=n+((a1++a2).length:Nat):=by rw[z6k];omega
     unfold Wt;rw[<-e];exact w
theorem z1x(x y:Nat):zot (.int x) (.int y)=some (.bl (decide (y<=x))):=z8y (fun b=>some (D.bl b)) (z71.mpr Int.ofNat_le)
theorem zxd(x y:Nat):zii (.int x) (.int y)=some (.bl (decide (y<x))):=z8y (fun b=>some (D.bl b)) (z71.mpr qb8)
theorem z1s(a b c:List D):(a++t::b).length+1+c.length=a.length+1+(b++x::c).length:=by simp only[z6k,List.length_cons];omega
theorem z14(a b c:List D):a++t::(b++x::c)=a++t::b++x::c:=by simp
theorem zzr{a b:List D}{m:Nat}(h:(a++t::b).length+1+m<=2000):b.length+1+m<=2000:=by simp only[z6k,List.length_cons]at h;omega
theorem zzq{a b:List D}{m:Nat}(h:m+1+(a++t::b).length<=2000):m+1+a.length<=2000:=by simp only[z6k,List.length_cons]at h;omega
theorem z41{a:List D}(h:a.length<=2):(a++[x]++[y]).length<=7:=by simp only[z6k,List.length_cons,List.length_nil];omega
theorem z40{a b:List D}(h:a.length<=2)(h':b.length<=2):(a++b++[x]++[y]++[t]).length<=7:=by simp only[z6k,List.length_cons,List.length_nil];omega
theorem z4z{a b c:List D}{f:Nat}(h:a.length<=2)(h':b.length<=9*f+1)(h3:c.length<=7):(a++b++c).length<=9*(f+1)+1:=by simp only[z6k];omega
theorem z28{a b c:List D}{m:Nat}(h:(a++t::(b++x::c)).length+1+m<=2000):a.length+1+b.length<=2000:=by simp only[z6k,List.length_cons]at h;omega
theorem z27{a b c:List D}{m:Nat}(h:(a++t::(b++x::c)).length+1+m<=2000):c.length+1+m<=2000:=by simp only[z6k,List.length_cons]at h;omega
theorem z26{a b c e:List D}(h:(a++t::(b++x::c)).length+1+e.length<=2000):(a++t::b).length+1+(c++y::e).length<=2000:=by simp only[z6k,List.length_cons]at h ⊢;omega
theorem z25{a b c:List D}{m:Nat}(h:m+1+(a++t::b++x::c).length<=2000):m+1+a.length<=2000:=by simp only[z6k,List.length_cons]at h;omega
theorem z24{a b c:List D}{m:Nat}(h:m+1+(a++t::b++x::c).length<=2000):b.length+1+c.length<=2000:=by simp only[z6k,List.length_cons]at h;omega
theorem z23{a b c e:List D}(h:e.length+1+(a++t::b++x::c).length<=2000):(e++y::a).length+1+(b++x::c).length<=2000:=by simp only[z6k,List.length_cons]at h ⊢;omega
theorem z6f(a b c e:List D):a++t::b++x::(c++y::e)=a++t::(b++x::c)++y::e:=by simp
theorem z6e(a b c e:List D):a++t::b++x::(c++y::e)=a++t::(b++x::c++y::e):=by simp
theorem up1{xh yh rh lh:Nat}(hh:lh=rh+2)(p:Top xh yh lh)(q1:xh<=yh+1)(q2:yh<=xh+1)(hg:yh<=xh):yh<=rh+1/\rh<=yh+1/\∀g,Top yh rh g->(xh<=g+1/\g<=xh+1/\∀z,Top xh g z->lh<=z/\z<=lh+1):=by obtain⟨p1,p2,p3⟩:=p;refine⟨by omega,by omega,fun g ⟨g1,g2,g3⟩=>⟨by omega,by omega,fun z ⟨z1,z2,z3⟩=>⟨by omega,by omega⟩⟩⟩
theorem up2{xh yh rh lh xh' yh':Nat}(hh:lh=rh+2)(p:Top xh yh lh)(q1:xh<=yh+1)(q2:yh<=xh+1)(hg:¬ yh<=xh)(p':Top xh' yh' yh)(q3:xh'<=yh'+1)(q4:yh'<=xh'+1) :
   (xh<=xh'+1/\xh'<=xh+1)/\(yh'<=rh+1/\rh<=yh'+1)/\∀g g',Top xh xh' g->Top yh' rh g'->(g<=g'+1/\g'<=g+1/\∀z,Top g g' z->lh<=z/\z<=lh+1):=by
 obtain⟨p1,p2,p3⟩:=p;obtain⟨p4,p5,p6⟩:=p';have e1:xh=rh:=by omega
 have e2:yh=rh+1:=by omega
 subst e1 e2;refine⟨⟨by omega,by omega⟩,⟨by omega,by omega⟩,fun g g' ⟨g1,g2,g3⟩ ⟨g4,g5,g6⟩=>?_⟩;have e3:g=xh+1:=by omega
 have e4:g'=xh+1:=by omega
 subst e3 e4;exact⟨by omega,by omega,fun z ⟨z1,z2,z3⟩=>⟨by omega,by omega⟩⟩
theorem Top.sym{a b h:Nat}(p:Top a b h):Top b a h:=⟨p.r,p.l,p.e.symm⟩
theorem zet(hw:S[i]? = some (wd (y6 k) n))(ml:Mk k l lt lh)(mr:Mk k r rt rh)(ht:Thing k t)(hh:lh=rh+2)(hn:lt.length+1+rt.length<=2000)(al:All P l)(ar:All P r) :
   ∃d h new S',zal [.obj i,l,t,r] S=some (d,S')/\Res k i S n P (lt++t::rt) d h new S'/\(lh<=h/\h<=lh+1)/\new.length<=7:=by
 obtain⟨x,u,y,xt,yt,xh,yh,w1,S1,c1,p⟩:=zaz ml (by omega) hw al;have e1:=p.hts;subst e1;have e2:=p.hh;have f1:=p.few;by_cases hg:yh<=xh
 · obtain⟨k1,k2,k3⟩:=up1 hh p.hh p.h1 p.h2 hg;have hge:zot (.int xh) (.int yh)=some (.bl true):=by rw[z1x,z68 hg]
   clear hg;obtain⟨d1,S2,g1,c2,r2,t2⟩:=y7 p.wt.at_ p.my mr ht k1 k2 (zzr hn) p.ay ar.old;have r2:=r2.after p.wt;obtain⟨k4,k5,k6⟩:=k3 _ t2;obtain⟨d2,S3,g2,c3,r3,t3⟩:=y7 r2.wt.at_ p.mx r2.mm p.ht k4 k5 (by rw[<-z1s];exact hn) p.ax.app r2.all;have r3:=r3.after r2.wt;exact⟨d2,_,_,S3,jq rfl (zh (zv (zj (a_c (e_v rfl) (a_c (e_v rfl) a_n)) c1)) (qi (z8 (qj (e_2 (zj (a_c (qw (e_v rfl) e_k rfl) a_n) (qo p.mx S1)) (zj (a_c (qw (e_v rfl) e_k rfl) a_n) (qo p.my S1)) hge)) (zw (x4 (e_v rfl) (qv p.wt.at_) (x8 _ _) (a_c (qw (e_v rfl) e_k rfl) (a_c (qw (e_v rfl) e_k rfl) (a_c (x4 (e_v rfl) (qv p.wt.at_) (x8 _ _) (a_c (qw (e_v rfl) e_k rfl) (a_c (e_v rfl) (a_c (e_v rfl) a_n))) c2) a_n))) c3))))),z14 xt yt rt▸r3,k6 _ t3,z41 f1⟩
 · have hge:zot (.int xh) (.int yh)=some (.bl false):=by rw[z1x,z60 hg]
   obtain⟨x',v,y',xt',yt',xh',yh',w2,S2,c2,p2⟩:=zaz p.my (by omega) p.wt.at_ p.ay;have e3:=p2.hts;subst e3;obtain⟨⟨k1,k2⟩,⟨k3,k4⟩,k5⟩:=up2 hh p.hh p.h1 p.h2 hg p2.hh p2.h1 p2.h2;have f2:=p2.few;clear hg e2;have wt2:=p.wt.two p2.wt;obtain⟨d1,S3,g1,c3,r3,t3⟩:=y7 wt2.at_ p.mx p2.mx p.ht k1 k2 (z28 hn) p.ax.app p2.ax.two;have r3:=r3.after wt2;obtain⟨d2,S4,g2,c4,r4,t4⟩:=y7 r3.wt.at_ p2.my mr ht k3 k4 (z27 hn) p2.ay.two.app ar.old;have r4:=r4.after r3.wt;obtain⟨k6,k7,k8⟩:=k5 _ _ t3 t4;obtain⟨d3,S5,g3,c5,r5,t5⟩:=y7 r4.wt.at_ r3.mm r4.mm p2.ht k6 k7 (z26 hn) r3.all.app r4.all;have r5:=r5.after r4.wt;exact⟨d3,_,_,S5,jq rfl (zh (zv (zj (a_c (e_v rfl) (a_c (e_v rfl) a_n)) c1)) (zh (zo (qj (e_2 (zj (a_c (qw (e_v rfl) e_k rfl) a_n) (qo p.mx S1)) (zj (a_c (qw (e_v rfl) e_k rfl) a_n) (qo p.my S1)) hge))) (zh (zv (zj (a_c (e_v rfl) (a_c (qw (e_v rfl) e_k rfl) a_n)) c2)) (zh (zv (x4 (e_v rfl) (qv wt2.at_) (x8 _ _) (a_c (qw (e_v rfl) e_k rfl) (a_c (qw (e_v rfl) e_k rfl) (a_c (qw (e_v rfl) e_k rfl) a_n))) c3)) (zh (zv (x4 (e_v rfl) (qv r3.wt.at_) (x8 _ _) (a_c (qw (e_v rfl) e_k rfl) (a_c (e_v rfl) (a_c (e_v rfl) a_n))) c4)) (zw (x4 (e_v rfl) (qv r4.wt.at_) (x8 _ _) (a_c (e_v rfl) (a_c (qw (e_v rfl) e_k rfl) (a_c (e_v rfl) a_n))) c5))))))),z6f xt xt' yt' rt▸r5,k8 _ t5,z40 f1 f2⟩
theorem zdt(hw:S[i]? = some (wd (y6 k) n))(ml:Mk k l lt lh)(mr:Mk k r rt rh)(ht:Thing k t)(hh:rh=lh+2)(hn:lt.length+1+rt.length<=2000)(al:All P l)(ar:All P r) :
   ∃d h new S',yw [.obj i,l,t,r] S=some (d,S')/\Res k i S n P (lt++t::rt) d h new S'/\(rh<=h/\h<=rh+1)/\new.length<=7:=by
 obtain⟨x,u,y,xt,yt,xh,yh,w1,S1,c1,p⟩:=zaz mr (by omega) hw ar;have e1:=p.hts;subst e1;have e2:=p.hh;have f1:=p.few;by_cases hg:xh<=yh
 · obtain⟨k1,k2,k3⟩:=up1 hh p.hh.sym p.h2 p.h1 hg;have hge:zot (.int yh) (.int xh)=some (.bl true):=by rw[z1x,z68 hg]
   clear hg;obtain⟨d1,S2,g1,c2,r2,t2⟩:=y7 p.wt.at_ ml p.mx ht k2 k1 (zzq hn) al.old p.ax;have r2:=r2.after p.wt;obtain⟨k4,k5,k6⟩:=k3 _ t2.sym;obtain⟨d2,S3,g2,c3,r3,t3⟩:=y7 r2.wt.at_ r2.mm p.my p.ht k5 k4 (by rw[z1s];exact hn) r2.all p.ay.app;have r3:=r3.after r2.wt;exact⟨d2,_,_,S3,jq rfl (zh (zv (zj (a_c (e_v rfl) (a_c (e_v rfl) a_n)) c1)) (qi (z8 (qj (e_2 (zj (a_c (qw (e_v rfl) e_k rfl) a_n) (qo p.my S1)) (zj (a_c (qw (e_v rfl) e_k rfl) a_n) (qo p.mx S1)) hge)) (zw (x4 (e_v rfl) (qv p.wt.at_) (x8 _ _) (a_c (x4 (e_v rfl) (qv p.wt.at_) (x8 _ _) (a_c (e_v rfl) (a_c (e_v rfl) (a_c (qw (e_v rfl) e_k rfl) a_n))) c2) (a_c (qw (e_v rfl) e_k rfl) (a_c (qw (e_v rfl) e_k rfl) a_n))) c3))))),(z14 lt xt yt).symm▸r3,k6 _ t3.sym,z41 f1⟩
 · have hge:zot (.int yh) (.int xh)=some (.bl false):=by rw[z1x,z60 hg]
   obtain⟨x',v,y',xt',yt',xh',yh',w2,S2,c2,p2⟩:=zaz p.mx (by omega) p.wt.at_ p.ax;have e3:=p2.hts;subst e3;obtain⟨⟨k1,k2⟩,⟨k3,k4⟩,k5⟩:=up2 hh p.hh.sym p.h2 p.h1 hg p2.hh.sym p2.h2 p2.h1;have f2:=p2.few;clear hg e2;have wt2:=p.wt.two p2.wt;obtain⟨d1,S3,g1,c3,r3,t3⟩:=y7 wt2.at_ ml p2.mx ht k4 k3 (z25 hn) al.old p2.ax.two;have r3:=r3.after wt2;obtain⟨d2,S4,g2,c4,r4,t4⟩:=y7 r3.wt.at_ p2.my p.my p.ht k2 k1 (z24 hn) p2.ay.two.app p.ay.app.app;have r4:=r4.after r3.wt;obtain⟨k6,k7,k8⟩:=k5 _ _ t4.sym t3.sym;obtain⟨d3,S5,g3,c5,r5,t5⟩:=y7 r4.wt.at_ r3.mm r4.mm p2.ht k7 k6 (z23 hn) r3.all.app r4.all;have r5:=r5.after r4.wt;exact⟨d3,_,_,S5,jq rfl (zh (zv (zj (a_c (e_v rfl) (a_c (e_v rfl) a_n)) c1)) (zh (zo (qj (e_2 (zj (a_c (qw (e_v rfl) e_k rfl) a_n) (qo p.my S1)) (zj (a_c (qw (e_v rfl) e_k rfl) a_n) (qo p.mx S1)) hge))) (zh (zv (zj (a_c (e_v rfl) (a_c (qw (e_v rfl) e_k rfl) a_n)) c2)) (zh (zv (x4 (e_v rfl) (qv wt2.at_) (x8 _ _) (a_c (e_v rfl) (a_c (e_v rfl) (a_c (qw (e_v rfl) e_k rfl) a_n))) c3)) (zh (zv (x4 (e_v rfl) (qv r3.wt.at_) (x8 _ _) (a_c (qw (e_v rfl) e_k rfl) (a_c (qw (e_v rfl) e_k rfl) (a_c (qw (e_v rfl) e_k rfl) a_n))) c4)) (zw (x4 (e_v rfl) (qv r4.wt.at_) (x8 _ _) (a_c (e_v rfl) (a_c (qw (e_v rfl) e_k rfl) (a_c (e_v rfl) a_n))) c5))))))),z6e lt xt' yt' yt▸r5,k8 _ t5.sym,z40 f1 f2⟩
structure Hi (a b h:Nat):Prop where
 l:a<=h
 r:b<=h
 m:∀z,a<=z->b<=z->h<=z+1
theorem Top.hi{a b h:Nat}(p:Top a b h):Hi a b h:=⟨z8h p.l,z8h p.r,fun z h1 h2=>by rcases p.e with rfl | rfl<;>omega⟩
theorem zb0(hw:S[i]? = some (wd (y6 k) n))(ml:Mk k l lt lh)(mr:Mk k r rt rh)(ht:Thing k t)(h1:lh<=rh+2)(h2:rh<=lh+2)(hn:lt.length+1+rt.length<=2000)(al:All P l)(ar:All P r) :
   ∃d h new S',xq [.obj i,l,t,r] S=some (d,S')/\Res k i S n P (lt++t::rt) d h new S'/\Hi lh rh h/\(lh<=rh+1->rh<=lh+1->Top lh rh h)/\new.length<=7:=by
 have bl:=k9 ml mr S;by_cases hb:lh<=rh+1/\rh<=lh+1
 · rw[z68 hb]at bl;obtain⟨d1,S1,g1,c1,r1,t1⟩:=y7 hw ml mr ht hb.1 hb.2 hn al ar;exact⟨d1,_,_,S1,jq rfl (qi (z8 (qj (zj (a_c (e_v rfl) (a_c (e_v rfl) a_n)) bl)) (zw (x4 (e_v rfl) (qv hw) (x8 _ _) (a_c (e_v rfl) (a_c (e_v rfl) (a_c (e_v rfl) a_n))) c1)))),r1,t1.hi,fun _ _=>t1,z7o rfl⟩
 · rw[z60 hb]at bl;by_cases hg:rh<lh
   · have e:lh=rh+2:=by omega
     obtain⟨d1,h,w,S1,c1,r1,⟨q1,q2⟩,q3⟩:=zet hw ml mr ht e hn al ar;exact⟨d1,h,w,S1,jq rfl (zh (zo (qj (zj (a_c (e_v rfl) (a_c (e_v rfl) a_n)) bl))) (qi (z8 (qj (e_2 (zj (a_c (e_v rfl) a_n) (qo ml S)) (zj (a_c (e_v rfl) a_n) (qo mr S)) (by rw[zxd,z68 hg]))) (zw (zj (a_c (e_v rfl) (a_c (e_v rfl) (a_c (e_v rfl) (a_c (e_v rfl) a_n)))) c1))))),r1,⟨q1,z67 (z8h hg) q1,fun z z1 z2=>z67 q2 (qb5 z1)⟩,fun u v=>absurd ⟨u,v⟩ hb,q3⟩
   · have e:rh=lh+2:=by omega
     obtain⟨d1,h,w,S1,c1,r1,⟨q1,q2⟩,q3⟩:=zdt hw ml mr ht e hn al ar;exact⟨d1,h,w,S1,jq rfl (zh (zo (qj (zj (a_c (e_v rfl) (a_c (e_v rfl) a_n)) bl))) (zh (zo (qj (e_2 (zj (a_c (e_v rfl) a_n) (qo ml S)) (zj (a_c (e_v rfl) a_n) (qo mr S)) (by rw[zxd,z60 hg])))) (zw (zj (a_c (e_v rfl) (a_c (e_v rfl) (a_c (e_v rfl) (a_c (e_v rfl) a_n)))) c1)))),r1,⟨z67 (z92.mp hg) q1,q1,fun z z1 z2=>z67 q2 (qb5 z2)⟩,fun u v=>absurd ⟨u,v⟩ hb,q3⟩
theorem dn1{a b h z c:Nat}(p:Top a b h)(q1:a<=b+1)(q2:b<=a+1)(hz:z+2<=h)(j:Hi b z c):a<=c+2/\c<=a+2:=by obtain⟨p1,p2,p3⟩:=p;have:=j.l;have:=j.m (b) (z6l _) (by omega);omega
theorem dn2{a b h z c g:Nat}(p:Top a b h)(q1:a<=b+1)(q2:b<=a+1)(hz:z+2<=h)(j:Hi b z c)(q:Hi a c g)(w:a<=c+1->c<=a+1->Top a c g):Hi h z g:=by
 obtain⟨p1,p2,p3⟩:=p;have c1:=j.l;have c2:=j.m b (z6l _) (by omega);have g1:=q.l;have g2:=q.r;have:h<=g/\g<=h+1:=by
   by_cases hb:a<=c+1/\c<=a+1
   · obtain⟨w1,w2,w3⟩:=w hb.1 hb.2;omega
   · have g3:=q.m c (by omega) (z6l _);omega
 exact⟨this.1,by omega,fun y y1 _=>z67 this.2 (qb5 y1)⟩
theorem dn3{a b h z f:Nat}(p:Top a b h)(q1:a<=b+1)(q2:b<=a+1)(hz:z+2<=h)(hf:h<=z+(f+1)):b<=z+f/\z<=b+f:=by obtain⟨p1,p2,p3⟩:=p;omega
theorem Hi.sym{a b h:Nat}(p:Hi a b h):Hi b a h:=⟨p.r,p.l,fun z u v=>p.m z v u⟩
theorem za2:∀(f c:Nat) {l r:D}{lt rt:List D}{lh rh:Nat}{n:Int}{S:Sto}{P:D->Prop},S[i]? = some (wd (y6 k) n)->Mk k l lt lh->Mk k r rt rh->Thing k t->lt.length+1+rt.length<=2000->All P l->All P r->lh<=rh+c->rh<=lh+c->c<f ->
   ∃d h new S',ya f [.obj i,l,t,r] S=some (d,S')/\Res k i S n P (lt++t::rt) d h new S'/\Hi lh rh h/\(lh<=rh+1->rh<=lh+1->Top lh rh h)/\new.length<=9*c+1
 |0,_,_,_,_,_,_,_,_,_,_,_,_,_,_,_,_,_,_,_,hf=>absurd hf (z9u _)
 | f+1,c,l,r,lt,rt,lh,rh,n,S,P,hw,ml,mr,ht,hn,al,ar,hc1,hc2,hf=>by
   have bl:=k9 ml mr S;by_cases hb:lh<=rh+1/\rh<=lh+1
   · rw[z68 hb]at bl;obtain⟨d1,S1,g1,c1,r1,t1⟩:=y7 hw ml mr ht hb.1 hb.2 hn al ar;exact⟨d1,_,_,S1,jq rfl (qi (z8 (qj (zj (a_c (e_v rfl) (a_c (e_v rfl) a_n)) bl)) (zw (x4 (e_v rfl) (qv hw) (x8 _ _) (a_c (e_v rfl) (a_c (e_v rfl) (a_c (e_v rfl) a_n))) c1)))),r1,t1.hi,fun _ _=>t1,Nat.le_add_left _ _⟩
   · rw[z60 hb]at bl;cases c with
     |zero=>omega
     | succ c=>
       by_cases hg:rh<lh
       · have hz:rh+2<=lh:=by omega
         clear hc2;obtain⟨x,u,y,xt,yt,xh,yh,w1,S1,c1,p⟩:=zaz ml (z8c (z7k _) hg) hw al;have e1:=p.hts;subst e1;obtain⟨k1,k2⟩:=dn3 p.hh p.h1 p.h2 hz hc1;obtain⟨d1,g1,w2,S2,c2,r2,b1,b0,b2⟩:=za2 f c p.wt.at_ p.my mr ht (zzr hn) p.ay ar.old k1 k2 (Nat.lt_of_succ_lt_succ hf);have r2:=r2.after p.wt;obtain⟨k3,k4⟩:=dn1 p.hh p.h1 p.h2 hz b1;obtain⟨d2,g2,w3,S3,c3,r3,b5,b6,b7⟩:=zb0 r2.wt.at_ p.mx r2.mm p.ht k3 k4 (by rw[<-z1s];exact hn) p.ax.app r2.all;have r3:=r3.after r2.wt;exact⟨d2,g2,_,S3,jq rfl (zh (zo (qj (zj (a_c (e_v rfl) (a_c (e_v rfl) a_n)) bl))) (qi (z8 (qj (e_2 (zj (a_c (e_v rfl) a_n) (qo ml S)) (zj (a_c (e_v rfl) a_n) (qo mr S)) (by rw[zxd,z68 hg]))) (zh (zv (zj (a_c (e_v rfl) (a_c (e_v rfl) a_n)) c1)) (zw (zj (a_c (e_v rfl) (a_c (qw (e_v rfl) e_k rfl) (a_c (qw (e_v rfl) e_k rfl) (a_c (zj (a_c (e_v rfl) (a_c (qw (e_v rfl) e_k rfl) (a_c (e_v rfl) (a_c (e_v rfl) a_n)))) c2) a_n)))) c3)))))),z14 xt yt rt▸r3,dn2 p.hh p.h1 p.h2 hz b1 b5 b6,fun u v=>absurd ⟨u,v⟩ hb,z4z p.few b2 b7⟩
       · have hz:lh+2<=rh:=by omega
         clear hc1;obtain⟨x,u,y,xt,yt,xh,yh,w1,S1,c1,p⟩:=zaz mr (z6p (by decide) (z67 (Nat.le_add_left 2 lh) hz)) hw ar;have e1:=p.hts;subst e1;obtain⟨k1,k2⟩:=dn3 p.hh.sym p.h2 p.h1 hz hc2;obtain⟨d1,g1,w2,S2,c2,r2,b1,b0,b2⟩:=za2 f c p.wt.at_ ml p.mx ht (zzq hn) al.old p.ax k2 k1 (Nat.lt_of_succ_lt_succ hf);have r2:=r2.after p.wt;obtain⟨k3,k4⟩:=dn1 p.hh.sym p.h2 p.h1 hz b1.sym;obtain⟨d2,g2,w3,S3,c3,r3,b5,b6,b7⟩:=zb0 r2.wt.at_ r2.mm p.my p.ht k4 k3 (by rw[z1s];exact hn) r2.all p.ay.app;have r3:=r3.after r2.wt;exact⟨d2,g2,_,S3,jq rfl (zh (zo (qj (zj (a_c (e_v rfl) (a_c (e_v rfl) a_n)) bl))) (zh (zo (qj (e_2 (zj (a_c (e_v rfl) a_n) (qo ml S)) (zj (a_c (e_v rfl) a_n) (qo mr S)) (by rw[zxd,z60 hg])))) (zh (zv (zj (a_c (e_v rfl) (a_c (e_v rfl) a_n)) c1)) (zw (zj (a_c (e_v rfl) (a_c (zj (a_c (e_v rfl) (a_c (e_v rfl) (a_c (e_v rfl) (a_c (qw (e_v rfl) e_k rfl) a_n)))) c2) (a_c (qw (e_v rfl) e_k rfl) (a_c (qw (e_v rfl) e_k rfl) a_n)))) c3))))),(z14 lt xt yt).symm▸r3,(dn2 p.hh.sym p.h2 p.h1 hz b1.sym b5.sym fun u v=>(b6 v u).sym).sym,fun u v=>absurd ⟨u,v⟩ hb,z4z p.few b2 b7⟩
end Pg
namespace Pg
open PySem L2 F Mt
variable {k:Nat} [Kd k] {d l r t x y:D}{ts lt rt:List D}{h lh rh i:Nat}{n:Int}{S S0 S1:Sto}{ev e:Ev}{P Q:D->Prop}{a b new:List D}
theorem z4t(x y:Nat):zc4 (.int x) (.int y)=some (.bl (decide (x<y))):=z8y (fun b=>some (D.bl b)) (z71.mpr qb8)
theorem z4v(x y:Nat):ze7 (.int x) (.int y)=some (.bl (decide (x<=y))):=z8y (fun b=>some (D.bl b)) (z71.mpr Int.ofNat_le)
theorem z21{x y:Nat}(h:x<y):zc4 (.int x) (.int y)=some (.bl true):=by rw[z4t,z68 h]
theorem z22{x y:Nat}(h:¬ x<y):zc4 (.int x) (.int y)=some (.bl false):=by rw[z4t,z60 h]
theorem zzs{x y:Nat}(h:x<=y):ze7 (.int x) (.int y)=some (.bl true):=by rw[z4v,z68 h]
theorem z51{x y:Nat}(h:¬ x<=y):ze7 (.int x) (.int y)=some (.bl false):=by rw[z4v,z60 h]
theorem z56{x y:Nat}(h:y<x):zii (.int x) (.int y)=some (.bl true):=by rw[zxd,z68 h]
theorem z4x{x y:Nat}(h:¬ y<x):zii (.int x) (.int y)=some (.bl false):=by rw[zxd,z60 h]
theorem z3r{x y:Nat}(h:x=y):j7 (.int x) (.int y)=some (.bl true):=by rw[zff,h];simp
theorem z12{x y:Nat}(h:x≠y):j7 (.int x) (.int y)=some (.bl false):=by rw[zff];simp;omega
theorem zuc{f g:E}{p m q:Nat}(hf:f ev S=some (.int p,S))(hg:g ev S=some (.int m,S))(hq:p=m+1+q):e2 zau (e2 zau f g) (eK (.int 1)) ev S=some (.int q,S) :=
 e_2 (e_2 hf hg (sub_int _ _)) e_k (by rw[sub_int,show(p:Int)-m-1=q by omega])
def HB(m h:Nat):Prop:=m<2^h/\2^h<=2*m+1
theorem zwb{m a b:Nat}(hm:0<m)(ha:HB (m/2) a)(hb:HB ((m-1)/2) b):a<=b+1/\b<=a+1/\∀h,Top a b h->HB m h:=by
 obtain⟨a1,a2⟩:=ha;obtain⟨b1,b2⟩:=hb;have h1:b<=a:=by
   rcases z8p a b with q | q
   · have:=Nat.pow_le_pow_right (n:=2) (by decide) (show a+1<=b from q);rw[Nat.pow_succ]at this;omega
   · exact q
 have h2:a<=b+1:=by
   rcases z8p (b+1) a with q | q
   · have:=Nat.pow_le_pow_right (n:=2) (by decide) (show b+1+1<=a from q);rw[Nat.pow_succ,Nat.pow_succ]at this;omega
   · exact q
 refine⟨h2,by omega,fun h ⟨_,_,e⟩=>?_⟩;have e:h=a+1:=by omega
 subst e;unfold HB;rw[Nat.pow_succ];cases a with
 |zero=>rw[Nat.pow_zero]at a1 a2 ⊢;omega
 |succ a=>rw[Nat.pow_succ]at a1 a2 ⊢;omega
theorem z1l(p a c:List D):atI (p++a++t::c) (((p.length+a.length:Nat)):Int)=some t:=zen (by rw[z6y (by simp),z6k];simp)
theorem halves:∀{ts:List D},ts≠[]->∃a t b,ts=a++t::b/\a.length=ts.length/2/\b.length=(ts.length-1)/2:=fun {ts} h=>by
 have hl:0<ts.length:=qbg.mpr h;have hm:ts.length/2<ts.length:=by omega
 refine⟨ts.take (ts.length/2),ts[ts.length/2],ts.drop (ts.length/2+1),?_,?_,?_⟩
 · rw[<-z70 hm,z76]
 · rw[z7e];omega
 · rw[z7f];omega
theorem zgy:∀(f:Nat) {p ts q:List D}{n:Int}{S:Sto}{P:D->Prop},S[i]? = some (wd (y6 k) n)->(∀x∈ts,Thing k x)->ts.length<=2000->ts.length<2^f->∀{s e:Nat},s=p.length->e=p.length+ts.length ->
   ∃d h new S',zgh (f+1) [.obj i,.lst (p++ts++q),.int s,.int e] S=some (d,S')/\Res k i S n P ts d h new S'/\HB ts.length h
 | f,p,ts,q,n,S,P,hw,ht,hl,hf,s,e,hs,he=>by
   by_cases h0:ts=[]
   · subst h0;refine⟨.non,0,[],S,jq rfl (qi (z8 (qj (e_2 (e_v rfl) (e_v rfl) (z3r (by simp[hs,he])))) (zw e_k))),⟨.non,Wt.nil hw,.non⟩,by decide,by decide⟩
   · obtain⟨a,t,b,e0,la,lb⟩:=halves h0;have hlen:0<ts.length:=qbg.mpr h0;cases f with
     |zero=>rw[Nat.pow_zero]at hf;omega
     | succ f=>
       rw[Nat.pow_succ]at hf;obtain⟨d1,h1,w1,S1,c1,r1,b1⟩:=zgy f (p:=p) (ts:=a) (q:=t::b++q) (P:=P) hw (fun x hx=>ht x (by rw[e0];exact z7y _ hx)) (by omega) (by omega) hs rfl;obtain⟨d2,h2,w2,S2,c2,r2,b2⟩:=zgy f (p:=p++a++[t]) (ts:=b) (q:=q) (P:=Ac P n w1) r1.wt.at_ (fun x hx=>ht x (by rw[e0];exact z6x _ (z6r _ hx))) (by omega) (by omega) (s:=p.length+a.length+1) (e:=e) (by simp;omega) (by simp;omega);have r2:=r2.after r1.wt;rw[la]at b1;rw[lb]at b2;obtain⟨q1,q2,q3⟩:=zwb hlen b1 b2;have e1:p++a++(t::b++q)=p++ts++q:=by rw[e0];simp
       have e2:p++a++[t]++b++q=p++ts++q:=by rw[e0];simp
       have e3:p++ts++q=p++a++t::(b++q):=by rw[e0];simp
       rw[e1]at c1;rw[e2]at c2;obtain⟨d3,S3,h3,c3,r3,t3⟩:=y7 r2.wt.at_ r1.mm r2.mm (ht t (by rw[e0];simp)) q1 q2 (by omega) r1.all.app r2.all;have r3:=r3.after r2.wt;rw[<-e0]at r3;have em:zdl (.int ((s:Int)+e)) (.int 2)=some (.int ((p.length+a.length:Nat):Int)):=by rw[zmo (by decide),show((s:Int)+e)/2=((p.length+a.length:Nat):Int) by omega]
       exact⟨d3,h3,_,S3,jq rfl (zh (zo (qj (e_2 (e_v rfl) (e_v rfl) (z12 (by omega))))) (zh (zv (e_2 (e_2 (e_v rfl) (e_v rfl) (add_int _ _)) e_k em)) (zh (zv (zj (a_c (e_v rfl) (a_c (e_v rfl) (a_c (e_v rfl) (a_c (e_v rfl) a_n)))) c1)) (zh (zv (zj (a_c (e_v rfl) (a_c (e_v rfl) (a_c (e_2 (e_v rfl) e_k (add_int _ _)) (a_c (e_v rfl) a_n)))) c2)) (zw (x4 (e_v rfl) (qv r2.wt.at_) (x8 _ _) (a_c (e_v rfl) (a_c (qw (e_v rfl) (e_v rfl) (by rw[e3];exact z1l _ _ _)) (a_c (e_v rfl) a_n))) c3)))))),r3,q3 _ t3⟩
theorem zbh(hw:S[i]? = some (wd (y6 k) n))(ht:∀x∈ts,Thing k x)(hl:ts.length<=2000):∃d h new S',x3 [.obj i,.lst ts] S=some (d,S')/\Res k i S n P ts d h new S':=by obtain⟨d,h,new,S1,c,r,_⟩:=zgy (i:=i) (k:=k) 39 (p:=[]) (ts:=ts) (q:=[]) (P:=P) hw ht hl (z8c hl (by decide)) (s:=0) (e:=ts.length) rfl (by simp);rw[List.nil_append,z7h]at c;exact⟨d,h,new,S1,jq rfl (zh (zbv (zj (a_c (e_a (a_c (e_v rfl) a_n) rfl) a_n) (zn2 hl S))) (zw (zj (a_c (e_v rfl) (a_c (e_v rfl) (a_c e_k (a_c (e_a (a_c (e_v rfl) a_n) rfl) a_n)))) c))),r⟩
theorem z0y(a b:Bool):j7 (.bl a) (.bl b)=some (.bl (a==b)):=rfl
structure Seen (k:Nat) (us:List D) (h:Nat) (x t y:D) (c:Bool) (xt yt:List D) (xh yh:Nat):Prop where
 mx:Mk k x xt xh
 my:Mk k y yt yh
 ht:Thing k t
 hu:us=ord c xt++t::ord c yt
 hx:xh<h
 hy:yh<h
theorem ziv(m:Mk k d ts h)(hh:0<h)(b:Bool)(S:Sto):∃x t y c xt yt xh yh,zhs [d,.bl b] S=some (.tup [x,t,y,.bl c],S)/\Seen k (ord b ts) h x t y c xt yt xh yh:=by
 cases m with
 |non=>omega
 | @node num a l t r lt rt lh rh ml mr ht h1 h2=>
   unfold mkD;by_cases e:a=b
   · subst e;exact⟨l,t,r,false,lt,rt,lh,rh,jq rfl (qi (z8 (qj (e_2 (qw (e_v rfl) e_k rfl) (e_v rfl) (by rw[z0y];simp))) (zw (zbp (a_c (qw (e_v rfl) e_k rfl) (a_c (qw (e_v rfl) e_k rfl) (a_c (qw (e_v rfl) e_k rfl) (a_c e_k a_n)))) (z7o rfl))))),ml,mr,ht,by cases a<;>simp[ord],by omega,by omega⟩
   · exact⟨r,t,l,true,rt,lt,rh,lh,jq rfl (zh (zo (qj (e_2 (qw (e_v rfl) e_k rfl) (e_v rfl) (by rw[z0y];simp[e])))) (zw (zbp (a_c (qw (e_v rfl) e_k rfl) (a_c (qw (e_v rfl) e_k rfl) (a_c (qw (e_v rfl) e_k rfl) (a_c e_k a_n)))) (z7o rfl)))),mr,ml,ht,by cases a<;>cases b<;>simp_all [ord],by omega,by omega⟩
theorem zdp(m:Mk k d ts h)(hl:ts≠[]):0<h:=by
 cases m with
 |non=>exact absurd rfl hl
 |node _ _ _ _ _=>omega
theorem ne_of{p:Nat}(h:ts[p]? = some x):ts≠[]:=fun e=>by rw[e]at h;cases h
theorem ztw{c:Bool}(h:ord c ts≠[]):ts≠[]:=fun e=>h (by rw[e];cases c<;>rfl)
theorem zaf:∀(f:Nat) {d:D}{ts:List D}{h p:Nat}{b:Bool},Mk k d ts h->h<=f->(ord b ts)[p]? = some x->∀S,xn f [d,.bl b,.int p] S=some (x,S)
 |0,d,ts,h,p,b,m,hf,hp,S=>absurd (zdp m (ztw (ne_of hp))) (z92.mpr hf)
 | f+1,d,ts,h,p,b,m,hf,hp,S=>by
   obtain⟨u,t,y,c,xt,yt,xh,yh,c1,s⟩:=ziv m (zdp m (ztw (ne_of hp))) b S;have hu:=s.hu;rw[hu]at hp;have lx:=xx c xt;have hx:=s.hx;have hy:=s.hy;have c2:=yf s.mx S;by_cases h1:p<xt.length
   · rw[z7d (by omega)]at hp;exact jq rfl (zh (zv (zj (a_c (e_v rfl) (a_c (e_v rfl) a_n)) c1)) (zh (zv (zj (a_c (qw (e_v rfl) e_k rfl) a_n) c2)) (qi (z8 (qj (e_2 (e_v rfl) (e_v rfl) (z21 h1))) (zw (zj (a_c (qw (e_v rfl) e_k rfl) (a_c (qw (e_v rfl) e_k rfl) (a_c (e_v rfl) a_n))) (zaf f s.mx (by omega) hp S)))))))
   · rw[z6y (by omega),lx]at hp;by_cases h2:xt.length<p
     · have e:p=xt.length+1+(p-xt.length-1):=by omega
       rw[show p-xt.length=(p-xt.length-1)+1 by omega,List.getElem?_cons_succ]at hp;exact jq rfl (zh (zv (zj (a_c (e_v rfl) (a_c (e_v rfl) a_n)) c1)) (zh (zv (zj (a_c (qw (e_v rfl) e_k rfl) a_n) c2)) (zh (zo (qj (e_2 (e_v rfl) (e_v rfl) (z22 h1)))) (qi (z8 (qj (e_2 (e_v rfl) (e_v rfl) (z56 h2))) (zw (zj (a_c (qw (e_v rfl) e_k rfl) (a_c (qw (e_v rfl) e_k rfl) (a_c (zuc (e_v rfl) (e_v rfl) e) a_n))) (zaf f s.my (by omega) hp S))))))))
     · rw[show p-xt.length=0 by omega,List.getElem?_cons_zero]at hp;cases hp;exact jq rfl (zh (zv (zj (a_c (e_v rfl) (a_c (e_v rfl) a_n)) c1)) (zh (zv (zj (a_c (qw (e_v rfl) e_k rfl) a_n) c2)) (zh (zo (qj (e_2 (e_v rfl) (e_v rfl) (z22 h1)))) (zh (zo (qj (e_2 (e_v rfl) (e_v rfl) (z4x h2)))) (zw (qw (e_v rfl) e_k rfl))))))
end Pg
namespace Pg
open PySem L2 F Mt
variable {k:Nat} [Kd k] {d l r t x y:D}{ts lt rt:List D}{h lh rh i:Nat}{n:Int}{S S0 S1:Sto}{ev e:Ev}{P Q:D->Prop}{a b new:List D}
theorem zzm(m:Mk k d [] h):d=.non/\h=0:=by
 generalize e:([]:List D)=ts at m;cases m with
 |non=>exact⟨rfl,rfl⟩
 |node _ _ _ _ _=>exact absurd (z8y List.length e) (by rw[xx];simp)
theorem h15(m:Mk k d ts h)(hl:ts.length<=2000):h<=15:=by
 have q:=zzn m;rcases z8p 15 h with z | z
 · have:low 16<=low h:=zf5 z;have e:low 16=2583:=by decide
   omega
 · exact z
theorem o1{xh yh h g:Nat}(p:Top xh yh h)(q1:xh<=yh+1)(q2:yh<=xh+1)(g1:g<=xh)(g2:xh<=g+1):(g<=yh+2/\yh<=g+2)/\∀z,Hi g yh z->(g<=yh+1->yh<=g+1->Top g yh z)->z<=h/\h<=z+1:=by
 obtain⟨p1,p2,p3⟩:=p;refine⟨⟨by omega,by omega⟩,fun z hz ht=>?_⟩;by_cases hb:g<=yh+1/\yh<=g+1
 · obtain⟨t1,t2,t3⟩:=ht hb.1 hb.2;omega
 · have:=hz.r;have:=hz.m yh (by omega) (z6l _);omega
theorem z3j{a b c:List D}{m xh yh h:Nat}(p:Top xh yh h)(h1:a.length<=2)(h2:b.length<=9*xh+m)(h3:c.length<=7):(a++b++c).length<=9*h+m:=by have:=p.l;simp only[z6k];omega
theorem zoz:¬ (0:Nat)<0:=by decide
theorem zv7{self:G}(S:Sto):jr self [.obj i,.non,y] S=some (y,S):=rfl
theorem zoo:∀(f:Nat) {d u:D}{rest:List D}{h:Nat}{n:Int}{S:Sto}{P:D->Prop},S[i]? = some (wd (y6 k) n)->Mk k d (u::rest) h->rest.length<2000->All P d->h<=f ->
   ∃d' h' new S',xj f [.obj i,d,.int (0:Nat)] S=some (d',S')/\Res k i S n P rest d' h' new S'/\(h'<=h/\h<=h'+1)/\new.length<=9*h
 |0,_,_,_,_,_,_,_,_,m,_,_,hf=>absurd (zdp m (by simp)) (z92.mpr hf)
 | f+1,d,u,rest,h,n,S,P,hw,m,hl,al,hf=>by
   obtain⟨x,v,y,xt,yt,xh,yh,w1,S1,c1,p⟩:=zaz m (zdp m (by simp)) hw al;have e1:=p.hts;have c2:=yf p.mx S1;cases xt with
   | nil=>
     obtain⟨rfl,rfl⟩:=zzm p.mx;simp only[List.nil_append,z84]at e1;obtain⟨rfl,rfl⟩:=e1;have e:h=yh+1:=by have:=p.hh.l;have:=p.hh.r;have:=p.hh.e;omega
     exact⟨y,yh,w1,S1,jq rfl (zh (zv (zj (a_c (e_v rfl) (a_c (e_v rfl) a_n)) c1)) (zh (zv (zj (a_c (qw (e_v rfl) e_k rfl) a_n) c2)) (zh (zo (qj (e_2 (e_v rfl) (e_v rfl) (z22 zoz)))) (zh (zo (qj (e_2 (e_v rfl) (e_v rfl) (z4x zoz)))) (zw (zj (a_c (e_v rfl) (a_c (qw (e_v rfl) e_k rfl) (a_c (qw (e_v rfl) e_k rfl) a_n))) (zv7 S1))))))),⟨p.my,p.wt,p.ay⟩,⟨by omega,by omega⟩,by have:=p.few;omega⟩
   | cons u' xt=>
     simp only[List.cons_append,z84]at e1;obtain⟨rfl,rfl⟩:=e1;simp only[z6k,List.length_cons]at hl;have hx:=p.hh.l;obtain⟨d1,g,w2,S2,c3,r2,⟨b1,b2⟩,b3⟩:=zoo f p.wt.at_ p.mx (by omega) p.ax (by omega);have r2:=r2.after p.wt;obtain⟨⟨k1,k2⟩,k3⟩:=o1 p.hh p.h1 p.h2 b1 b2;obtain⟨d2,g2,w3,S3,c4,r3,b5,b6,b7⟩:=zb0 r2.wt.at_ r2.mm p.my p.ht k1 k2 (by omega) r2.all p.ay.app;have r3:=r3.after r2.wt;exact⟨d2,g2,_,S3,jq rfl (zh (zv (zj (a_c (e_v rfl) (a_c (e_v rfl) a_n)) c1)) (zh (zv (zj (a_c (qw (e_v rfl) e_k rfl) a_n) c2)) (qi (z8 (qj (e_2 (e_v rfl) (e_v rfl) (z21 (Nat.zero_lt_succ _)))) (zw (zj (a_c (e_v rfl) (a_c (zj (a_c (e_v rfl) (a_c (qw (e_v rfl) e_k rfl) (a_c (e_v rfl) a_n))) c3) (a_c (qw (e_v rfl) e_k rfl) (a_c (qw (e_v rfl) e_k rfl) a_n)))) c4)))))),r3,k3 _ b5 b6,z3j (m:=0) p.hh p.few b3 b7⟩
theorem hi0(h:Nat):Hi 0 h h:=⟨z7k _,z6l _,fun z _ q=>Nat.le_succ_of_le q⟩
theorem ld1{lh rh g c:Nat}(g1:g<=rh)(g2:rh<=g+1)(c1:lh<=rh+c)(c2:rh<=lh+c):lh<=g+(c+1)/\g<=lh+(c+1):=by omega
theorem ld2{lh rh g z:Nat}(g1:g<=rh)(g2:rh<=g+1)(h:Hi lh g z)(w:lh<=g+1->g<=lh+1->Top lh g z)(c1:lh<=rh+1)(c2:rh<=lh+1):Hi lh rh z:=by
 refine⟨h.l,?_,fun y y1 y2=>h.m y y1 (by omega)⟩;by_cases hb:lh<=g+1/\g<=lh+1
 · obtain⟨t1,t2,t3⟩:=w hb.1 hb.2;omega
 · have:=h.l;omega
theorem zj7(m:Mk k d ts h):(d=.non/\ts=[]/\h=0)\/((∃xs,d=.tup xs)/\∃u rest,ts=u::rest):=by
 cases m with
 |non=>exact .inl ⟨rfl,rfl,rfl⟩
 | @node num a l t r lt rt lh rh _ _ _ _ _=>
   refine .inr ⟨⟨_,rfl⟩,?_⟩;cases e:ord a (lt++t::rt) with
   |nil=>exact absurd (z8y List.length e) (by rw[xx];simp)
   |cons u rest=>exact⟨u,rest,rfl⟩
theorem zk3(xs:List D):zf1 (.tup xs) .non=some (.bl false):=rfl
theorem zv6{f c:Nat}(hw:S[i]? = some (wd (y6 k) n))(ml:Mk k l lt lh)(mr:Mk k r rt rh)(hn:lt.length+rt.length<=2000)(al:All P l)(ar:All P r)(hf:rh<=f)(c1:lh<=rh+c)(c2:rh<=lh+c) :
   ∃d h new S',jr (xj f) [.obj i,l,r] S=some (d,S')/\Res k i S n P (lt++rt) d h new S'/\(lh<=rh+1->rh<=lh+1->Hi lh rh h)/\new.length<=9*rh+9*c+10:=by
 rcases zj7 ml with⟨rfl,rfl,rfl⟩ | ⟨⟨xs,rfl⟩,u0,r0,rfl⟩
 · exact⟨r,rh,[],S,rfl,⟨mr,Wt.nil hw,ar.old⟩,fun _ _=>hi0 rh,z7k _⟩
 · rcases zj7 mr with⟨rfl,rfl,rfl⟩ | ⟨⟨ys,rfl⟩,u,rest,rfl⟩
   · exact⟨_,lh,[],S,rfl,⟨by rw[z7h];exact ml,Wt.nil hw,al.old⟩,fun _ _=>(hi0 lh).sym,z7k _⟩
   · simp only[List.length_cons]at hn;have l15:=h15 ml (by simp only[List.length_cons];omega);have r15:=h15 mr (by simp only[List.length_cons];omega);obtain⟨d1,g,w1,S1,q1,r1,⟨b1,b2⟩,b3⟩:=zoo f hw mr (by omega) ar hf;have at0:=zaf (x:=u) 40 (b:=false) (p:=0) mr (by omega) rfl S;have hj:∃c',c'<40/\c'<=c+1/\lh<=g+c'/\g<=lh+c':=by
       obtain⟨z1,z2⟩:=ld1 b1 b2 c1 c2;rcases z8p c 30 with q | q
       · exact⟨c+1,by omega,z6l _,z1,z2⟩
       · exact⟨16,by decide,by omega,by omega,by omega⟩
     obtain⟨c',j1,j2,j3,j4⟩:=hj;obtain⟨d2,g2,w2,S2,q2,r2,b5,b6,b7⟩:=za2 40 c' r1.wt.at_ ml r1.mm (mr.things u (z6w ..)) (by simp only[List.length_cons];omega) al.old r1.all j3 j4 j1;have r2:=r2.after r1.wt;exact⟨d2,g2,_,S2,jq rfl (zh (zo (qj (e_2 (e_v rfl) e_k (zk3 _)))) (zh (zo (qj (e_2 (e_v rfl) e_k (zk3 _)))) (zw (zj (a_c (e_v rfl) (a_c (e_v rfl) (a_c (zj (a_c (e_v rfl) (a_c e_k (a_c e_k a_n))) at0) (a_c (zj (a_c (e_v rfl) (a_c (e_v rfl) (a_c e_k a_n))) q1) a_n)))) q2)))),r2,ld2 b1 b2 b5 b6,by simp only[z6k];omega⟩
end Pg
namespace Pg
open PySem L2 F Mt
variable {k:Nat} [Kd k] {d l r t x y:D}{ts lt rt:List D}{h lh rh i:Nat}{n:Int}{S S0 S1:Sto}{ev e:Ev}{P Q:D->Prop}{a b new:List D}
structure Cut (k i:Nat) (S:Sto) (n:Int) (P:D->Prop) (lt rt:List D) (h:Nat) (x y:D) (xh yh:Nat) (new:List D) (S':Sto):Prop where
 wt:Wt k i S n new S'
 mx:Mk k x lt xh
 my:Mk k y rt yh
 hx:xh<=h
 hy:yh<=h
 ax:All (Ac P n new) x
 ay:All (Ac P n new) y
 few:new.length<=9*(xh+yh)+3*h
theorem ct1{xh yh bh h:Nat}(p:Top xh yh h)(h1:xh<=yh+1)(hb:bh<=xh)(h40:h<40):∃c,c<40/\bh<=yh+c/\yh<=bh+c/\∀z ah l1 l2 l3,Hi bh yh z->(bh<=yh+1->yh<=bh+1->Top bh yh z)->l1<=2->l2<=9*(ah+bh)+3*xh->l3<=9*c+1->l1+l2+l3<=9*(ah+z)+3*h:=by
 obtain⟨p1,p2,p3⟩:=p;by_cases q:bh<=yh
 · exact⟨yh-bh,by omega,by omega,by omega,fun z ah l1 l2 l3 hz _ _ _ _=>by have:=hz.r;omega⟩
 · exact⟨1,by decide,by omega,by omega,fun z ah l1 l2 l3 _ hz _ _ _=>by have:=(hz (by omega) (by omega)).l;omega⟩
theorem z0d{a b z h:Nat}(p:Hi a b z)(h1:a<h)(h2:b<h):z<=h:=by have:=p.m (h-1) (by omega) (by omega);omega
theorem zxr{p:Nat}(h:p<=a.length):(a++t::b).take p=a.take p:=z8m h
theorem z03{p:Nat}(h:p<=a.length):(a++t::b).drop p=a.drop p++t::b:=z8l h
theorem zxq{q:Nat}:(a++t::b).take (a.length+1+q)=a++t::b.take q:=by rw[List.take_append,z7x (by omega),show a.length+1+q-a.length=q+1 by omega,List.take_succ_cons]
theorem z02{q:Nat}:(a++t::b).drop (a.length+1+q)=b.drop q:=by rw[List.drop_append,z8i (by omega),show a.length+1+q-a.length=q+1 by omega,List.drop_succ_cons,List.nil_append]
theorem yr:∀(f:Nat) {d:D}{ts:List D}{h p:Nat}{n:Int}{S:Sto}{P:D->Prop},S[i]? = some (wd (y6 k) n)->Mk k d ts h->ts.length<=2000->p<=ts.length->All P d->h<f ->
   ∃x y xh yh new S',yj f [.obj i,d,.int p] S=some (.tup [x,y],S')/\Cut k i S n P (ts.take p) (ts.drop p) h x y xh yh new S'
 |0,_,_,_,_,_,_,_,_,_,_,_,_,hf=>absurd hf (z9u _)
 | f+1,d,ts,h,p,n,S,P,hw,m,hl,hp,al,hf=>by
   by_cases h0:p=0
   · subst h0;exact⟨.non,d,0,h,[],S,jq rfl (qi (z8 (qj (e_2 (e_v rfl) e_k (z3r rfl))) (zw (zbp (a_c e_k (a_c (e_v rfl) a_n)) (z7o rfl))))),Wt.nil hw,.non,m,z7k _,z6l _,.non,al.old,z7k _⟩
   · have c0:=yf m S;have e0:j7 (.int p) (.int 0)=some (.bl false):=z12 (y:=0) h0;by_cases h9:p=ts.length
     · subst h9;exact⟨d,.non,h,0,[],S,jq rfl (zh (zo (qj (e_2 (e_v rfl) e_k e0))) (qi (z8 (qj (e_2 (e_v rfl) (zj (a_c (e_v rfl) a_n) c0) (z3r rfl))) (zw (zbp (a_c (e_v rfl) (a_c e_k a_n)) (z7o rfl)))))),Wt.nil hw,by rw[List.take_length];exact m,by rw[List.drop_length];exact .non,z6l _,z7k _,al.old,.non,z7k _⟩
     · have h40:=h15 m hl;obtain⟨x,v,y,xt,yt,xh,yh,w1,S1,c1,q⟩:=zaz m (zdp m (qbg.mp (by omega))) hw al;have e1:=q.hts;subst e1;have c2:=yf q.mx S1;have hx:=q.hh.l;have hy:=q.hh.r;have hl':=hl;have hp':=hp;simp only[z6k,List.length_cons]at hl' hp';by_cases h1:p<=xt.length
       · obtain⟨a,b,ah,bh,w2,S2,c3,u⟩:=yr f q.wt.at_ q.mx (by omega) h1 q.ax (by omega);have wt2:=q.wt.two u.wt;obtain⟨c,j1,j2,j3,j4⟩:=ct1 q.hh q.h1 u.hy (by omega);obtain⟨d2,g2,w3,S3,c4,r3,b5,b6,b7⟩:=za2 40 c wt2.at_ u.my q.my q.ht (by rw[z7f];omega) u.ay.two q.ay.app j2 j3 j1;have r3:=r3.after wt2;have fw:=j4 _ ah _ _ _ b5 b6 q.few u.few b7;refine⟨a,d2,ah,g2,_,S3,jq rfl (zh (zo (qj (e_2 (e_v rfl) e_k e0))) (zh (zo (qj (e_2 (e_v rfl) (zj (a_c (e_v rfl) a_n) c0) (z12 h9)))) (zh (zv (zj (a_c (e_v rfl) (a_c (e_v rfl) a_n)) c1)) (zh (zv (zj (a_c (qw (e_v rfl) e_k rfl) a_n) c2)) (qi (z8 (qj (e_2 (e_v rfl) (e_v rfl) (zzs h1))) (zh (zv (zj (a_c (e_v rfl) (a_c (qw (e_v rfl) e_k rfl) (a_c (e_v rfl) a_n))) c3)) (zw (zbp (a_c (qw (e_v rfl) e_k rfl) (a_c (zj (a_c (e_v rfl) (a_c (qw (e_v rfl) e_k rfl) (a_c (qw (e_v rfl) e_k rfl) (a_c (qw (e_v rfl) e_k rfl) a_n)))) c4) a_n)) (z7o rfl)))))))))),⟨r3.wt,by rw[zxr h1];exact u.mx,by rw[z03 h1];exact r3.mm,z67 u.hx (z8h hx),z0d b5 (z8c u.hy hx) hy,u.ax.two.app,r3.all,by rw[z6k,z6k];exact fw⟩⟩
       · obtain⟨z,e⟩:∃z,p=xt.length+1+z:=⟨p-xt.length-1,by omega⟩
         obtain⟨a,b,ah,bh,w2,S2,c3,u⟩:=yr f (p:=z) q.wt.at_ q.my (by omega) (by omega) q.ay (by omega);have wt2:=q.wt.two u.wt;obtain⟨c,j1,j2,j3,j4⟩:=ct1 q.hh.sym q.h2 u.hx (by omega);obtain⟨d2,g2,w3,S3,c4,r3,b5,b6,b7⟩:=za2 40 c wt2.at_ q.mx u.mx q.ht (by rw[z7e];omega) q.ax.app u.ax.two j3 j2 j1;have r3:=r3.after wt2;have fw:=j4 _ bh _ _ _ b5.sym (fun u v=>(b6 v u).sym) q.few (by have:=u.few;rwa [Nat.add_comm ah bh]at this) b7;rw[Nat.add_comm bh]at fw;refine⟨d2,b,g2,bh,_,S3,jq rfl (zh (zo (qj (e_2 (e_v rfl) e_k e0))) (zh (zo (qj (e_2 (e_v rfl) (zj (a_c (e_v rfl) a_n) c0) (z12 h9)))) (zh (zv (zj (a_c (e_v rfl) (a_c (e_v rfl) a_n)) c1)) (zh (zv (zj (a_c (qw (e_v rfl) e_k rfl) a_n) c2)) (zh (zo (qj (e_2 (e_v rfl) (e_v rfl) (z51 h1)))) (zh (zv (zj (a_c (e_v rfl) (a_c (qw (e_v rfl) e_k rfl) (a_c (zuc (e_v rfl) (e_v rfl) e) a_n))) c3)) (zw (zbp (a_c (zj (a_c (e_v rfl) (a_c (qw (e_v rfl) e_k rfl) (a_c (qw (e_v rfl) e_k rfl) (a_c (qw (e_v rfl) e_k rfl) a_n)))) c4) (a_c (qw (e_v rfl) e_k rfl) a_n)) (z7o rfl))))))))),⟨r3.wt,by rw[e,zxq];exact r3.mm,by rw[e,z02];exact u.my,z0d b5 hx (z8c u.hx hy),z67 u.hy (z8h hy),r3.all,u.ay.two.app,by rw[z6k,z6k];exact fw⟩⟩
theorem z1d{s e m:Nat}{f g w z:E}(hs:s<=e)(he:e<=m)(h0:f ev S=some (.int (0:Nat),S))(h1:g ev S=some (.int s,S))(h2:w ev S=some (.int e,S))(h3:z ev S=some (.int m,S)):zgn ze7 ze7 ze7 f g w z ev S=some (.bl true,S):=by simp only[zgn,h0,h1,h2,h3,Option.bind_some,zzs (z7k s),zzs hs,zzs he,Option.map_some]
theorem zlu{s e:Nat}(m:Mk k d ts h)(hs:s<=e)(he:e<=ts.length)(S:Sto):yk [d,.int s,.int e] S=some (.non,S) :=
 z13 rfl (zo (zq2 (qj (z1d hs he e_k (e_v rfl) (e_v rfl) (zj (a_c (e_v rfl) a_n) (yf m S))))))
def turn(s e:Nat)(ts:List D):List D:=ts.take s++((ts.take e).drop s).reverse++ts.drop e
theorem zfr{s e:Nat}(hs:s<=e)(he:e<=ts.length):(turn s e ts).length=ts.length:=by simp only[turn,z6k,z78,z7f,z7e];omega
theorem zt3(hw:S[i]? = some (wd (y6 k) n))(ml:Mk k l lt lh)(mr:Mk k r rt rh)(hn:lt.length+rt.length<=2000)(al:All P l)(ar:All P r):∃d h new S',yi [.obj i,l,r] S=some (d,S')/\Res k i S n P (lt++rt) d h new S'/\new.length<=9*rh+9*max lh rh+10:=by have h1:=h15 mr (by omega);obtain⟨d,h,new,S1,c,r,_,b⟩:=zv6 (f:=40) (c:=max lh rh) hw ml mr hn al ar (by omega) (by omega) (by omega);exact⟨d,h,new,S1,c,r,b⟩
theorem zes{s e:Nat}(hw:S[i]? = some (wd (y6 k) n))(m:Mk k d ts h)(hl:ts.length<=2000)(hs:s<=e)(he:e<=ts.length)(al:All P d):∃d' h' new S',zaj [.obj i,d,.int s,.int e] S=some (d',S')/\Res k i S n P (turn s e ts) d' h' new S':=by
 have h1:=h15 m hl;obtain⟨x,y,xh,yh,w1,S1,c1,u⟩:=yr 40 hw m hl he al (by omega);have hx:=u.hx;obtain⟨x',y',xh',yh',w2,S2,c2,u'⟩:=yr 40 (p:=s) u.wt.at_ u.mx (by rw[z7e];omega) (by rw[z7e];omega) u.ax (by omega);have wt2:=u.wt.two u'.wt;obtain⟨d3,w3,S3,c3,r3,_⟩:=zj6 u'.my wt2.at_ u'.ay.two;have r3:=r3.after wt2;obtain⟨d4,h4,w4,S4,c4,r4,_⟩:=zt3 r3.wt.at_ u'.mx r3.mm (by simp only[z78,z7f,z7e];omega) u'.ax.two.app r3.all;have r4:=r4.after r3.wt;obtain⟨d5,h5,w5,S5,c5,r5,_⟩:=zt3 r4.wt.at_ r4.mm u.my (by simp only[z6k,z78,z7f,z7e];omega) r4.all u.ay.app.app.app;have r5:=r5.after r4.wt;have es:(ts.take e).take s=ts.take s:=by rw[qcb,z9t hs]
 rw[es]at r5;exact⟨d5,h5,_,S5,jq rfl (zh (zbv (zj (a_c (e_v rfl) (a_c (e_v rfl) (a_c (e_v rfl) a_n))) (zlu m hs he S))) (zh (zv (zj (a_c (e_v rfl) (a_c (e_v rfl) (a_c (e_v rfl) a_n))) c1)) (zh (zv (zj (a_c (e_v rfl) (a_c (qw (e_v rfl) e_k rfl) (a_c (e_v rfl) a_n))) c2)) (zh (zv (zj (a_c (e_v rfl) (a_c (qw (e_v rfl) e_k rfl) (a_c (x4 (e_v rfl) (qv wt2.at_) (zb4 _ _) (a_c (qw (e_v rfl) e_k rfl) a_n) c3) a_n))) c4)) (zw (zj (a_c (e_v rfl) (a_c (e_v rfl) (a_c (qw (e_v rfl) e_k rfl) a_n))) c5)))))),r5⟩
end Pg
namespace Pg
open PySem L2 F Mt
variable {k:Nat} [Kd k] {d l r t x y:D}{ts lt rt:List D}{h lh rh i:Nat}{n:Int}{S S0 S1:Sto}{ev e:Ev}{P Q:D->Prop}{a b new:List D}
theorem p1{xh yh h g:Nat}(p:Top xh yh h)(q1:xh<=yh+1)(q2:yh<=xh+1)(g1:xh<=g)(g2:g<=xh+1):(g<=yh+2/\yh<=g+2)/\∀z,Hi g yh z->(g<=yh+1->yh<=g+1->Top g yh z)->h<=z/\z<=h+1:=by
 obtain⟨p1,p2,p3⟩:=p;refine⟨⟨by omega,by omega⟩,fun z hz ht=>?_⟩;by_cases hb:g<=yh+1/\yh<=g+1
 · obtain⟨t1,t2,t3⟩:=ht hb.1 hb.2;omega
 · have:=hz.l;have:=hz.m g (z6l _) (by omega);omega
theorem z1e{p m:Nat}{f g w:E}(hp:p<m)(h0:f ev S=some (.int (0:Nat),S))(h1:g ev S=some (.int p,S))(h2:w ev S=some (.int m,S)):zhy ze7 zc4 f g w ev S=some (.bl true,S):=by simp only[zhy,h0,h1,h2,Option.bind_some,zzs (z7k p),z21 hp,Option.map_some]
theorem zrv{p m:Nat}(hp:p<m)(S:Sto):zan [.int p,.int m] S=some (.non,S):=z13 rfl (zo (zq2 (qj (z1e hp e_k (e_v rfl) (e_v rfl)))))
theorem z30{p:Nat}(m:Mk k d ts h)(hl:ts.length<=2000)(hp:ts[p]? = some x)(S:Sto):z3h [d,.int p] S=some (x,S) :=
 jq rfl (zh (zbv (zj (a_c (e_v rfl) (a_c (zj (a_c (e_v rfl) a_n) (yf m S)) a_n)) (zrv (z6o.mp hp).1 S))) (zw (zj (a_c (e_v rfl) (a_c e_k (a_c (e_v rfl) a_n))) (zaf 40 (b:=false) m (z67 (h15 m hl) (by decide)) hp S))))
theorem z46(x:Nat):qh (.int x) (.int 1)=some (.int (x+1:Nat)):=rfl
theorem zb9{q j:Nat}{v:E}{us:List D}(he:ev[q]? = some (some (.obj j)))(hj:S[j]? = some (.lst us))(hv:v ev S=some (x,S))(hl:us.length<16777216):xg (eV q) v ev S=some (.nx ev,S.set j (.lst (us++[x]))):=by have hz:sizeLine=16777216:=z7z;simp only[xg,e_v he,Option.bind_some,hj,hv,hz,z64 hl]
theorem zd4:∀(f:Nat) {d:D}{ts:List D}{h j:Nat}{b:Bool}{acc:List D}{S:Sto},Mk k d ts h->h<f->S[j]? = some (.lst acc)->acc.length+ts.length<16777216->zc9 f [d,.bl b,.obj j] S=some (.non,S.set j (.lst (acc++ord b ts)))
 |0,_,_,_,_,_,_,_,_,hf,_,_=>absurd hf (z9u _)
 | f+1,d,ts,h,j,b,acc,S,m,hf,hj,hl=>by
   rcases zj7 m with⟨rfl,rfl,rfl⟩ | ⟨⟨xs,ed⟩,u0,r0,e0⟩
   · rw[show ord b ([]:List D)=[] by cases b<;>rfl,z7h];have:S.set j (.lst acc)=S:=by obtain⟨hj',ej⟩:=z6o.mp hj;rw[<-ej];exact List.set_getElem_self hj'
     rw[this];exact jq rfl (qi (z8 (qj (e_2 (e_v rfl) e_k rfl)) rfl))
   · obtain⟨u,t,y,c,xt,yt,xh,yh,c1,s⟩:=ziv m (zdp m (by rw[e0];simp)) b S;have hi:zf1 d .non=some (.bl false):=by rw[ed];rfl
     have hu:=s.hu;have hlen:ts.length=xt.length+(yt.length+1):=by have:=z8y List.length hu;rw[xx,z6k,List.length_cons,xx,xx]at this;exact this
     have hx:=s.hx;have hy:=s.hy;have lx:=xx c xt;have ly:=xx c yt;have c2:=zd4 f (b:=c) (S:=S) s.mx (by omega) hj (by omega);have j2:(S.set j (.lst (acc++ord c xt)))[j]? = some (.lst (acc++ord c xt)):=znz hj;have j3:((S.set j (.lst (acc++ord c xt))).set j (.lst (acc++ord c xt++[t])))[j]? = some (.lst (acc++ord c xt++[t])):=znz j2;have c3:=zd4 f (b:=c) s.my (by omega) j3 (by simp only[z6k,List.length_cons,List.length_nil];omega);have e5:((S.set j (.lst (acc++ord c xt))).set j (.lst (acc++ord c xt++[t]))).set j (.lst (acc++ord c xt++[t]++ord c yt))=S.set j (.lst (acc++ord b ts)):=by rw[List.set_set,List.set_set,show acc++ord c xt++[t]++ord c yt=acc++ord b ts by rw[hu];simp]
     rw[e5]at c3;exact z13 rfl (zh (zo (qj (e_2 (e_v rfl) e_k hi))) (zh (zv (zj (a_c (e_v rfl) (a_c (e_v rfl) a_n)) c1)) (zh (zbv (zj (a_c (qw (e_v rfl) e_k rfl) (a_c (qw (e_v rfl) e_k rfl) (a_c (e_v rfl) a_n))) c2)) (zh (zb9 rfl j2 (qw (e_v rfl) e_k rfl) (by simp only[z6k];omega)) (zbv (zj (a_c (qw (e_v rfl) e_k rfl) (a_c (qw (e_v rfl) e_k rfl) (a_c (e_v rfl) a_n))) c3))))))
def SB(S:Sto):Prop:=∀m∈S,zm2 S.length m=true
theorem zia{m:Nat}(hx:Thing k x):bnd m x=true:=by
 cases zkb hx with
 |non=>rfl
 |int i=>rfl
 |str z=>rfl
 |pair a b=>rfl
theorem xm{m:Nat}:∀{ts:List D},(∀x∈ts,Thing k x)->bndL m ts=true
 | [],_=>rfl
 | t::ts,h=>by unfold bndL;rw[zia (h t (z6w ..)),xm fun x hx=>h x (z6r _ hx)];rfl
theorem zxo(m:Nat)(n:Int):zm2 m (wd (y6 k) n)=true:=by rcases Kd.eq (k:=k)with h | h<;>subst h<;>rfl
theorem jy(m:Mk k d ts h)(hl:ts.length<=2000)(hb:SB S):qt [d] S=some (.lst ts,S):=by
 have h1:=h15 m hl;have c1:=zd4 40 (b:=false) (S:=S++[.lst []]) (j:=S.length) (acc:=[]) m (by omega) (zf8 S _) (by simp only[List.length_nil];omega);have e1:(S++[MO.lst []]).set S.length (.lst ([]++ord false ts))=S++[.lst ts]:=by simp[ord]
 rw[e1]at c1;have c2:z9 2 1 zeh [d] S=some (.obj S.length,S++[.lst ts]):=jq rfl (zh (zv (zfg a_n (z7k _))) (zh (zbv (zj (a_c (e_v rfl) (a_c e_k (a_c (e_v rfl) a_n))) c1)) (zw (e_v rfl))));have e2:(S++[MO.lst ts]).take S.length=S:=qbt;have e3:S.all (zm2 S.length)=true:=z7v.mpr hb;unfold qt frz;rw[c2];simp only[Option.bind_some,e2,e3,z8f,z8r,z8d,zf8,xm m.things]
end Pg
namespace Pg
open PySem L2 F Mt
variable {k:Nat} [Kd k] {d l r t x y:D}{ts lt rt:List D}{h lh rh i:Nat}{n:Int}{S S0 S1:Sto}{ev e:Ev}{P Q:D->Prop}{a b new:List D}
theorem zn4(h:∀z∈lt,Thing k z):∀z∈lt.reverse,Thing k z:=fun z hz=>h z (z86.mp hz)
theorem sx(m d v:Nat):HT.sIx m d (some (v:Int))=min v m:=by show(if(v:Int)<0 then ((v:Int)+(m:Int)).toNat else min (v:Int).toNat m)=min v m;rw[z7a (by omega),Int.toNat_natCast]
theorem zx6(e:Nat):zzd (.lst ts) none (some (e:Int))=some (.lst (ts.take e)):=by show some (D.lst ((ts.drop 0).take (HT.sIx ts.length ts.length (some (e:Int))-0)))=_;rw[sx,z9n,Nat.sub_zero,<-qcb,List.take_length]
theorem znw{s:Nat}(hs:s<=ts.length):zzd (.lst ts) (some (s:Int)) none=some (.lst (ts.drop s)):=by show some (D.lst ((ts.drop (HT.sIx ts.length 0 (some (s:Int)))).take (ts.length-HT.sIx ts.length 0 (some (s:Int)))))=_;rw[sx,z9t hs,z7x (by rw[z7f];omega)]
theorem ztj{s e:Nat}(hs:s<=e)(he:e<=ts.length):zzd (.lst ts) (some (s:Int)) (some (e:Int))=some (.lst ((ts.take e).drop s)):=by show some (D.lst ((ts.drop (HT.sIx ts.length 0 (some (s:Int)))).take (HT.sIx ts.length ts.length (some (e:Int))-HT.sIx ts.length 0 (some (s:Int)))))=_;rw[sx,sx,z9t (z67 hs he),z9t he,List.drop_take]
theorem zo5(m:Int)(c:Nat):∃e:Nat,e<=c/\qz (.int m) (.int ((c:Int)+1))=some (.int e):=by have x0:=z8j m (show(c:Int)+1≠0 by omega);have x1:=z74 m (show(0:Int)<(c:Int)+1 by omega);exact⟨(m%((c:Int)+1)).toNat,by omega,by rw[y8 (by omega),show(((m%((c:Int)+1)).toNat:Nat):Int)=m%((c:Int)+1) by omega]⟩
theorem zdo(m:Int){c:Nat}(hc:0<c):∃e:Nat,e<c/\qz (.int m) (.int (c:Int))=some (.int e):=by have x0:=z8j m (show(c:Int)≠0 by omega);have x1:=z74 m (show(0:Int)<(c:Int) by omega);exact⟨(m%(c:Int)).toNat,by omega,by rw[y8 (by omega),show(((m%(c:Int)).toNat:Nat):Int)=m%(c:Int) by omega]⟩
theorem zn3(c:Nat):(jc 0 c).length=c:=by simp[jc]
end Pg
namespace Pg
open PySem L2 F Mt
variable {k:Nat} [Kd k] {d l r t x y:D}{ts us lt rt:List D}{h lh rh i:Nat}{n:Int}{S S0 S1:Sto}{ev e:Ev}{P Q:D->Prop}
theorem zyc(ns:List Int){q:Int}(h0:0<=q)(h1:q<ns.length):∃v:Int,atI (ns.map D.int) q=some (.int v):=by
 have hi:q.toNat<ns.length:=by omega
 have e2:(ns.map D.int)[q.toNat]? = some (.int ns[q.toNat]):=by rw[z72,z6s hi];rfl
 have e3:=zen e2;rw[show((q.toNat:Nat):Int)=q by omega]at e3;exact⟨_,e3⟩
theorem p30:zdk (.int 10) (.int 30)=some (.int (10^30)):=by
 have:ztt 10 30=some (10^30):=by unfold ztt;rw[z64 (by decide)];rfl
 simp only[zdk,F.opI,this];rfl
theorem ki(ns:List Int)(hn:ns.length<=63){q:Int}(h0:0<=q)(h1:q<=1000000):∃m:Int,0<=m/\m<999999937/\∀S,zq [.lst (ns.map D.int),.int q] S=some (.int m,S):=by
 have len:∀S:Sto,zc7 S [.lst (ns.map D.int)]=some (.int (ns.length:Int)):=fun S=>by simp[zc7]
 have first:∀(S:Sto),qp 2 (e2 qh (e2 zai (e2 zai (eV 1) (eV 1)) (eK (.int 7919))) (eK (.int 17))) [some (.lst (ns.map D.int)),some (.int q),none] S=some (.nx [some (.lst (ns.map D.int)),some (.int q),some (.int (q*q*7919+17))],S):=fun S=>
   zv (e_2 (e_2 (e_2 (e_v rfl) (e_v rfl) (zku (by omega))) e_k (zhi (by decide))) e_k (add_int _ _))
 have last:∀(c:Int) (S:Sto),qm (e2 qz (e2 zai (e2 qz (e2 qh (e2 zai (eV 2) (eK (.int 48271))) (e2 zai (eV 1) (eK (.int 69621)))) (eK (.int 2147483647))) (e2 qh (e2 qz (eV 2) (eK (.int 65521))) (eK (.int 3)))) (eK (.int 999999937))) [some (.lst (ns.map D.int)),some (.int q),some (.int c)] S=some (.rt (.int ((c*48271+q*69621)%2147483647*(c%65521+3)%999999937)),S):=fun c S=>by have y0:=z8j (c*48271+q*69621) (show(2147483647:Int)≠0 by decide);have y1:=z74 (c*48271+q*69621) (show(0:Int)<2147483647 by decide);exact zw (e_2 (e_2 (e_2 (e_2 (e_2 (e_v rfl) e_k (zhi (by decide))) (e_2 (e_v rfl) e_k (zhi (by decide))) (add_int _ _)) e_k (y8 (by decide))) (e_2 (e_2 (e_v rfl) e_k (y8 (by decide))) e_k (add_int _ _)) (zku (by omega))) e_k (y8 (by decide)))
 by_cases z:0<(ns.length:Int)
 · have x0:=z8j q (show(ns.length:Int)≠0 by omega);have x1:=z74 q z;obtain⟨v,hv⟩:=zyc ns x0 x1;refine⟨_,z8j _ (by decide),z74 _ (by decide),fun S=>jq rfl (zh (first S) (zh (z8 (qj (e_2 (e_a (a_c (e_v rfl) a_n) (len _)) e_k (show zii (.int (ns.length:Int)) (.int 0)=some (.bl true) by simp[zii,zr2];omega)))
     (zv (e_2 (e_2 (qw (e_v rfl) (e_2 (e_v rfl) (e_a (a_c (e_v rfl) a_n) (len _)) (y8 z)) hv) (e_2 e_k e_k p30) (y8 (by decide))) (e_2 (e_2 (e_v rfl) (e_a (a_c (e_v rfl) a_n) (len _)) (zmo ⟨z,by omega⟩)) e_k (zhi (by decide))) (add_int _ _)))) (last _ S)))⟩
 · exact⟨_,z8j _ (by decide),z74 _ (by decide),fun S=>jq rfl (zh (first S) (zh (zo (qj (e_2 (e_a (a_c (e_v rfl) a_n) (len _)) e_k (show zii (.int (ns.length:Int)) (.int 0)=some (.bl false) from(by show some (D.bl (decide ((0:Int)<(ns.length:Int))))=_;rw[z60 z]))))) (last _ S)))⟩
theorem znp{i:Nat}{f:E}{b:C}{n:Int}{o:Out}{S2:Sto}(h:f ev S=some (.int n,S1))(h0:0<=n)(h1:n<1000000)(q:za0 i b (jc 0 n.toNat) ev S1=some (o,S2)):zix i f b ev S=some (o,S2):=by
 have cnd:-(2^62)<=n/\n<2^62:=by omega
 simp only[zix,h,Option.bind_some,z64 cnd,q]
theorem zir{i:Nat}{f:E}{b:C}{ds:List D}{o:Out}{S2:Sto}(h:f ev S=some (.lst ds,S1))(q:za0 i b ds ev S1=some (o,S2)):zfv i f b ev S=some (o,S2):=by simp only[zfv,h,Option.bind_some,q]
theorem zbx{i:Nat}{b:C}{d:D}{ds:List D}{e1:Ev}{o:Out}{S2:Sto}(h:b (ev.set i (some d)) S=some (.nx e1,S1))(q:za0 i b ds e1 S1=some (o,S2)):za0 i b (d::ds) ev S=some (o,S2):=by unfold za0;rw[h];exact q
theorem zv4{f:E}(h:f ev S=some (.lst ts,S1)):zlf (aC f aN) ev S=some (.lst ts,S1):=by simp[zlf,aC,aN,h]
theorem zjf{g:G}{ds us:List D}{J:Sto}(hS:SB S)(hg:g ds S=some (.lst us,S++J))(hb:bndL S.length us=true):frz g ds S=some (.lst us,S):=by unfold frz;rw[hg];have e1:(S++J).take S.length=S:=qbt;have e2:S.all (zm2 S.length)=true:=z7v.mpr hS;simp only[Option.bind_some,e1,e2,z8f,bnd,hb]
theorem ze6(lo:Int)(m:Nat):jc lo (m+1)=.int lo::jc (lo+1) m:=by
 unfold jc;rw[List.range_succ_eq_map,z65,qar];congr 1
 · simp
 · refine List.map_congr_left fun z _=>?_;simp;omega
end Pg
namespace Pg
open PySem L2 F Mt
structure Sw (T:D->Prop) (lt:D->D->Bool):Prop where
 irr:∀x,T x->lt x x=false
 tr:∀x y z,T x->T y->T z->lt x y=true->lt y z=true->lt x z=true
 co:∀x y z,T x->T y->T z->lt x z=true->lt x y=true\/lt y z=true
section
variable {T:D->Prop}{lt:D->D->Bool}
def alk(lt:D->D->Bool)(x y:D):Prop:=lt x y=false/\lt y x=false
theorem alk.symm{x y:D}(h:alk lt x y):alk lt y x:=⟨h.2,h.1⟩
theorem Sw.asy(w:Sw T lt){x y:D}(hx:T x)(hy:T y)(h:lt x y=true):lt y x=false:=by
 cases q:lt y x with
 |false=>rfl
 |true=>have:=w.irr x hx;rw[w.tr x y x hx hy hx h q]at this;cases this
theorem Sw.refl(w:Sw T lt){x:D}(hx:T x):alk lt x x:=⟨w.irr x hx,w.irr x hx⟩
theorem Sw.trans(w:Sw T lt){x y z:D}(hx:T x)(hy:T y)(hz:T z)(h1:alk lt x y)(h2:alk lt y z):alk lt x z:=by
 constructor
 · cases q:lt x z with
   |false=>rfl
   | true => rcases w.co x y z hx hy hz q with r | r
             · rw[h1.1]at r;cases r
             · rw[h2.1]at r;cases r
 · cases q:lt z x with
   |false=>rfl
   | true => rcases w.co z y x hz hy hx q with r | r
             · rw[h2.2]at r;cases r
             · rw[h1.2]at r;cases r
theorem Sw.lt_alk(w:Sw T lt){x y z:D}(hx:T x)(hy:T y)(hz:T z)(h1:lt x y=true)(h2:alk lt y z):lt x z=true:=by
 rcases w.co x z y hx hz hy h1 with r | r
 · exact r
 · rw[h2.2]at r;cases r
theorem Sw.alk_lt(w:Sw T lt){x y z:D}(hx:T x)(hy:T y)(hz:T z)(h1:alk lt x y)(h2:lt y z=true):lt x z=true:=by
 rcases w.co y x z hy hx hz h2 with r | r
 · rw[h1.2]at r;cases r
 · exact r
def Srt(lt:D->D->Bool)(l:List D):Prop:=l.Pairwise fun x y=>lt x y=true
def Al(T:D->Prop)(l:List D):Prop:=∀x∈l,T x
theorem Al.tail{x:D}{l:List D}(h:Al T (x::l)):Al T l:=fun y hy=>h y (z6r _ hy)
theorem Al.head{x:D}{l:List D}(h:Al T (x::l)):T x:=h x (z6w ..)
inductive F2 (R:D->D->Prop):List D->List D->Prop
 |nil:F2 R [] []
 |cons {x y:D}{l m:List D}:R x y->F2 R l m->F2 R (x::l) (y::m)
theorem zn1(w:Sw T lt){R:D->D->Prop}(hR:∀x y,R x y->alk lt x y):∀{l m:List D},Al T l->Al T m->Srt lt l->Srt lt m->(∀x∈l,∃y∈m,R x y)->(∀y∈m,∃x∈l,R x y)->F2 R l m
 | [],[],_,_,_,_,_,_=>.nil
 | [],y::m,_,_,_,_,_,h=>by obtain⟨x,hx,_⟩:=h y (z6w ..);cases hx
 |x::l,[],_,_,_,_,h,_=>by obtain⟨y,hy,_⟩:=h x (z6w ..);cases hy
 | x::l,y::m,al,am,sl,sm,h1,h2=>by
   obtain⟨sx,sl'⟩:=z7p.mp sl;obtain⟨sy,sm'⟩:=z7p.mp sm;have tx:=al.head;have ty:=am.head;have hxy:R x y:=by
     obtain⟨y',hy',r1⟩:=h1 x (z6w ..);rcases z6n.mp hy' with rfl | hy'
     · exact r1
     · obtain⟨x',hx',r2⟩:=h2 y (z6w ..);rcases z6n.mp hx' with rfl | hx'
       · exact r2
       · have e1:=w.lt_alk ty (am.tail y' hy') tx (sy y' hy') (hR _ _ r1).symm;have e2:=w.lt_alk tx (al.tail x' hx') ty (sx x' hx') (hR _ _ r2);rw[w.asy ty tx e1]at e2;cases e2
   refine .cons hxy (zn1 w hR al.tail am.tail sl' sm' (fun z hz=>?_) fun z hz=>?_)
   · obtain⟨u,hu,r⟩:=h1 z (z6r _ hz);rcases z6n.mp hu with rfl | hu
     · have e:=w.alk_lt tx (al.tail z hz) (al.tail z hz) |> fun _=>sx z hz;have:=w.trans tx ty (al.tail z hz) (hR _ _ hxy) (hR _ _ r).symm;rw[this.1]at e;cases e
     · exact⟨u,hu,r⟩
   · obtain⟨u,hu,r⟩:=h2 z (z6r _ hz);rcases z6n.mp hu with rfl | hu
     · have e:=sy z hz;have:=w.trans ty tx (am.tail z hz) (hR _ _ hxy).symm (hR _ _ r);rw[this.1]at e;cases e
     · exact⟨u,hu,r⟩
theorem zyg(w:Sw T lt){l m:List D}(al:Al T l)(am:Al T m)(sl:Srt lt l)(sm:Srt lt m)(h:∀x,x∈l↔x∈m):l=m:=by
 have e:F2 (fun x y=>x=y/\T x) l m:=zn1 w (R:=fun x y=>x=y/\T x) (fun x y r=>r.1▸w.refl r.2) al am sl sm (fun x hx=>⟨x,(h x).mp hx,rfl,al x hx⟩) fun x hx=>⟨x,(h x).mpr hx,rfl,am x hx⟩
 clear al am sl sm h
 induction e with
 |nil=>rfl
 |cons h _ ih=>rw[h.1,ih]
open Classical in
def hs(lt:D->D->Bool)(l:List D)(x:D):Bool:=decide (∃y∈l,alk lt y x)
open Classical in
theorem hs_iff{l:List D}{x:D}:hs lt l x=true↔∃y∈l,alk lt y x:=by unfold hs;exact decide_eq_true_iff
theorem hs_no{l:List D}{x:D}:hs lt l x=false↔∀y∈l,¬ alk lt y x:=by rw[z81,ne_eq,hs_iff];exact⟨fun h y hy r=>h ⟨y,hy,r⟩,fun h ⟨y,hy,r⟩=>h y hy r⟩
def cb(lt:D->D->Bool)(l:List D)(x:D):Nat:=(l.filter (lt · x)).length
theorem zui(w:Sw T lt){a b:List D}{t x:D}(al:Al T (a++t::b))(tx:T x)(s:Srt lt (a++t::b)):cb lt (a++t::b) x=if lt t x=true then a.length+1+cb lt b x else cb lt a x:=by
 have tt:T t:=al t (by simp);obtain⟨sa,sb,sab⟩:=z6t.mp s;obtain⟨st,sb'⟩:=z7p.mp sb;unfold cb;rw[qbq,z6k,List.filter_cons];split
 · rename_i h;have e:a.filter (lt · x)=a:=qao.mpr fun y hy=>w.tr y t x (al y (by simp[hy])) tt tx (sab y hy t (z6w ..)) h;rw[e,List.length_cons];omega
 · rename_i h;have e:b.filter (lt · x)=[]:=List.filter_eq_nil_iff.mpr fun y hy q=>h (w.tr t y x tt (al y (by simp[hy])) tx (st y hy) q);rw[e];simp
theorem zlm(w:Sw T lt){x:D}(tx:T x):∀{l:List D},Al T l->Srt lt l->(∀y∈l.take (cb lt l x),lt y x=true)/\(∀y∈l.drop (cb lt l x),lt y x=false)
 | [],_,_=>⟨fun y hy=>by simp at hy,fun y hy=>by simp at hy⟩
 | z::l,al,s=>by
   obtain⟨sz,sl⟩:=z7p.mp s;have e:=zui w (a:=[]) (b:=l) (t:=z) al tx s;rw[List.nil_append]at e;by_cases h:lt z x=true
   · rw[z64 h]at e;obtain⟨i1,i2⟩:=zlm w tx al.tail sl;rw[e,show[].length+1+cb lt l x=cb lt l x+1 by simp;omega,List.take_succ_cons,List.drop_succ_cons];exact⟨fun y hy=>(z6n.mp hy).elim (fun q=>q▸h) (i1 y),i2⟩
   · rw[z7a h]at e;have e0:cb lt (z::l) x=0:=e;rw[e0];refine⟨fun y hy=>by simp at hy,fun y hy=>?_⟩;rcases z6n.mp hy with rfl | hy
     · exact z81.mpr h
     · exact z81.mpr fun q=>h (w.tr z y x al.head (al.tail y hy) tx (sz y hy) q)
theorem z3e(w:Sw T lt){x:D}(tx:T x){l:List D}(al:Al T l)(s:Srt lt l):hs lt l x=true↔∃y,l[cb lt l x]? = some y/\lt x y=false:=by
 obtain⟨h1,h2⟩:=zlm w tx al s;constructor
 · intro h;obtain⟨y,hy,r⟩:=hs_iff.mp h;have hy':y∈l.drop (cb lt l x):=by
     rw[<-z76 (cb lt l x) l]at hy;rcases z62.mp hy with q | q
     · have:=r.1;rw[h1 y q]at this;cases this
     · exact q
   cases q:l.drop (cb lt l x) with
   |nil=>rw[q]at hy';cases hy'
   | cons z m=>
     have hz:l[cb lt l x]? = some z:=by have:=qbn (xs:=l) (i:=cb lt l x) (j:=0);rw[q]at this;simpa using this.symm
     refine⟨z,hz,?_⟩;have sd:Srt lt (z::m):=q▸List.Pairwise.drop s;rw[q]at hy';rcases z6n.mp hy' with rfl | hm
     · exact r.2
     · cases g:lt x z with
       |false=>rfl
       | true=>
         have tz:=al z (z7n hz);have:=w.tr x z y tx tz (al y hy) g ((z7p.mp sd).1 y hm);rw[r.2]at this;cases this
 · intro⟨y,hy,r⟩;have hm:y∈l.drop (cb lt l x):=z7n (i:=0) (by rw[qbn];simpa using hy);exact hs_iff.mpr ⟨y,z7n hy,h2 y hm,r⟩
def nxt(lt:D->D->Bool)(a:D):List D->List D
 | []=>[]
 |b::bs=>if lt a b=true then b::bs else bs
theorem zow(a:D):nxt lt a []=[]:=rfl
theorem zc5(a d:D)(ds:List D):nxt lt a (d::ds)=if lt a d=true then d::ds else ds:=rfl
def mrg(lt:D->D->Bool):List D->List D->List D
 | [],bs=>bs
 |a::as,bs=>bs.takeWhile (lt · a)++a::mrg lt as (nxt lt a (bs.dropWhile (lt · a)))
theorem zxp{p:D->Bool}:∀{l:List D}{y:D},y∈l.takeWhile p->p y=true
 | [],y,h=>by cases h
 | x::l,y,h=>by
   by_cases q:p x=true
   · rw[qbi q]at h;rcases z6n.mp h with rfl | h
     · exact q
     · exact zxp h
   · rw[qbj q]at h;cases h
theorem zqb(w:Sw T lt){a:D}(ta:T a):∀{bs:List D},Al T bs->Srt lt bs->∀y∈bs.dropWhile (lt · a),lt y a=false
 | [],_,_,y,hy=>by cases hy
 | b::bs,al,s,y,hy=>by
   obtain⟨sb,s'⟩:=z7p.mp s;by_cases h:lt b a=true
   · rw[qbk (p:=(lt · a)) h]at hy;exact zqb w ta al.tail s' y hy
   · rw[qbl (p:=(lt · a)) h]at hy;rcases z6n.mp hy with rfl | hy
     · exact z81.mpr h
     · exact z81.mpr fun q=>h (w.tr b y a al.head (al.tail y hy) ta (sb y hy) q)
theorem zox{a y:D}{ds:List D}(h:y∈nxt lt a ds):y∈ds:=by
 cases ds with
 |nil=>exact h
 | cons d ds=>
   rw[zc5]at h;split at h
   · exact h
   · exact z6r _ h
theorem zzg(w:Sw T lt){a:D}(ta:T a){ds:List D}(al:Al T ds)(s:Srt lt ds)(h:∀y∈ds,lt y a=false):(∀y∈nxt lt a ds,lt a y=true)/\Srt lt (nxt lt a ds)/\∀y∈ds,y∈nxt lt a ds\/alk lt a y/\y∉nxt lt a ds:=by
 cases ds with
 |nil=>rw[zow];exact⟨fun y hy=>(by cases hy),s,fun y hy=>(by cases hy)⟩
 | cons d ds=>
   obtain⟨sd,s'⟩:=z7p.mp s;rw[zc5];split
   · rename_i q;refine⟨fun y hy=>?_,s,fun y hy=>.inl hy⟩;rcases z6n.mp hy with rfl | hy
     · exact q
     · exact w.tr a d y ta al.head (al.tail y hy) q (sd y hy)
   · rename_i q;have q:lt a d=false:=z81.mpr q;have hd:=h d (z6w ..);refine⟨fun y hy=>w.alk_lt ta al.head (al.tail y hy) ⟨q,hd⟩ (sd y hy),s',fun y hy=>?_⟩;rcases z6n.mp hy with rfl | hy
     · exact .inr ⟨⟨q,hd⟩,fun z=>by have:=sd y z;rw[w.irr y al.head]at this;cases this⟩
     · exact .inl hy
theorem zhj(w:Sw T lt):∀{as bs:List D},Al T as->Al T bs->Srt lt as->Srt lt bs->Srt lt (mrg lt as bs)/\(∀x,x∈mrg lt as bs↔x∈as\/x∈bs/\hs lt as x=false)/\(mrg lt as bs).length=as.length+(bs.filter (fun x=>!hs lt as x)).length
 | [],bs,_,_,_,sb=>by
   have e:∀x,hs lt ([]:List D) x=false:=fun x=>hs_no.mpr fun y hy=>by cases hy
   refine⟨sb,fun x=>⟨fun h=>.inr ⟨h,e x⟩,fun h=>h.elim (fun z=>by cases z) fun z=>z.1⟩,?_⟩;show bs.length=0+_;rw[qao.mpr fun x _=>by rw[e x];rfl];omega
 | a::as,bs,al,am,sa,sb=>by
   obtain⟨sa1,sa2⟩:=z7p.mp sa;have ta:=al.head;have sp:bs=bs.takeWhile (lt · a)++bs.dropWhile (lt · a):=List.takeWhile_append_dropWhile.symm;have s0:Srt lt (bs.takeWhile (lt · a)++bs.dropWhile (lt · a)):=sp▸sb;obtain⟨s1,s2,s3⟩:=z6t.mp s0;have amD:Al T (bs.dropWhile (lt · a)):=fun y hy=>am y (sp▸z6x _ hy);have amT:Al T (bs.takeWhile (lt · a)):=fun y hy=>am y (sp▸z7y _ hy);have hT:∀y∈bs.takeWhile (lt · a),lt y a=true:=fun y hy=>zxp (p:=(lt · a)) hy;obtain⟨n1,n2,n3⟩:=zzg w ta amD s2 (zqb w ta am sb);have amN:Al T (nxt lt a (bs.dropWhile (lt · a))):=fun y hy=>amD y (zox hy);obtain⟨i1,i2,i3⟩:=zhj w al.tail amN sa2 n2;have hT0:∀y∈bs.takeWhile (lt · a),hs lt (a::as) y=false:=fun y hy=>hs_no.mpr fun z hz r=>by
     have ty:=amT y hy;rcases z6n.mp hz with rfl | hz
     · have:=r.2;rw[hT y hy]at this;cases this
     · have:=w.tr y a z ty ta (al.tail z hz) (hT y hy) (sa1 z hz);rw[r.2]at this;cases this
   have hN0:∀y,T y->lt a y=true->hs lt (a::as) y=hs lt as y:=fun y ty q=>by
     cases g:hs lt as y with
     |true=>obtain⟨z,hz,r⟩:=hs_iff.mp g;exact hs_iff.mpr ⟨z,z6r _ hz,r⟩
     | false=>
       exact hs_no.mpr fun z hz r=>by
         rcases z6n.mp hz with rfl | hz
         · have:=r.1;rw[q]at this;cases this
         · exact hs_no.mp g z hz r
   have inM:∀z∈mrg lt as (nxt lt a (bs.dropWhile (lt · a))),T z/\lt a z=true:=fun z hz=>by
     rcases(i2 z).mp hz with q | q
     · exact⟨al.tail z q,sa1 z q⟩
     · exact⟨amN z q.1,n1 z q.1⟩
   refine⟨?_,fun x=>?_,?_⟩
   · refine z6t.mpr ⟨s1,z7p.mpr ⟨fun z hz=>(inM z hz).2,i1⟩,fun y hy z hz=>?_⟩;rcases z6n.mp hz with rfl | hz
     · exact hT y hy
     · exact w.tr y a z (amT y hy) ta (inM z hz).1 (hT y hy) (inM z hz).2
   · show x∈bs.takeWhile (lt · a)++a::mrg lt as (nxt lt a (bs.dropWhile (lt · a)))↔_;rw[z62,z6n];constructor
     · rintro(q | rfl | q)
       · exact .inr ⟨by rw[sp];exact z7y _ q,hT0 x q⟩
       · exact .inl (z6w ..)
       · rcases(i2 x).mp q with r | r
         · exact .inl (z6r _ r)
         · exact .inr ⟨by rw[sp];exact z6x _ (zox r.1),by rw[hN0 x (amN x r.1) (n1 x r.1)];exact r.2⟩
     · rintro(q | ⟨q,r⟩)
       · rcases z6n.mp q with rfl | q
         · exact .inr (.inl rfl)
         · exact .inr (.inr ((i2 x).mpr (.inl q)))
       · rw[sp]at q;rcases z62.mp q with q | q
         · exact .inl q
         · rcases n3 x q with z | z
           · exact .inr (.inr ((i2 x).mpr (.inr ⟨z,by rw[<-hN0 x (amN x z) (n1 x z)];exact r⟩)))
           · exact absurd z.1 (hs_no.mp r a (z6w ..))
   · show(bs.takeWhile (lt · a)++a::mrg lt as (nxt lt a (bs.dropWhile (lt · a)))).length=(as.length+1)+_;have e1:(bs.takeWhile (lt · a)).filter (fun x=>!hs lt (a::as) x)=bs.takeWhile (lt · a):=qao.mpr fun y hy=>by rw[hT0 y hy];rfl
     have e2:((bs.dropWhile (lt · a)).filter (fun x=>!hs lt (a::as) x)).length=((nxt lt a (bs.dropWhile (lt · a))).filter (fun x=>!hs lt as x)).length:=by
       have key:(nxt lt a (bs.dropWhile (lt · a))).filter (fun x=>!hs lt (a::as) x)=(nxt lt a (bs.dropWhile (lt · a))).filter (fun x=>!hs lt as x):=List.filter_congr fun y hy=>by rw[hN0 y (amN y hy) (n1 y hy)]
       rw[<-key];generalize bs.dropWhile (lt · a)=ds at n1 n2 n3 amD amN;cases ds with
       |nil=>rfl
       | cons d ds=>
         rw[zc5]at n1 n2 n3 amN ⊢;split
         · rfl
         · rename_i q;have hd:alk lt a d:=by
             rcases n3 d (z6w ..)with z | z
             · exact absurd (n1 d z) q
             · exact z.1
           have:hs lt (a::as) d=true:=hs_iff.mpr ⟨a,z6w ..,hd⟩;rw[z8v (by rw[this];simp)]
     rw[z6k,List.length_cons,i3]
     conv=>rhs;rw[sp,qbq,z6k,e1,e2]
     omega
theorem zt1(w:Sw T lt){as bs:List D}(al:Al T as)(am:Al T bs)(sa:Srt lt as)(sb:Srt lt bs):Al T (mrg lt as bs):=fun x hx=>((zhj w al am sa sb).2.1 x).mp hx |>.elim (al x) fun z=>am x z.1
end
variable {k:Nat} [Kd k] {d d0 l r t x y:D}{ts us rt:List D}{h i j g rh:Nat}{n:Int}{S S0 S1:Sto}{ev:Ev}{T:D->Prop}{lt:D->D->Bool}{f:LT}{vs:List D}
theorem zwv(w c:Int):j7 (.int w) (.int c)=some (.bl (decide (w=c))):=by rw[zff];rfl
theorem zxc(w c:Int):zc4 (.int w) (.int c)=some (.bl (decide (w<c))):=rfl
structure Bf (k:Nat) (T:D->Prop) (lt:D->D->Bool) (f:LT) (vs:List D):Prop where
 two:f.params.args.length=2
 no:noCL vs=true
 th:∀x,T x->Thing k x
 nc:∀x,T x->noC x=true
 ca:∃g,zmr f=some g/\∀x y,T x->T y->∀S,g ([x,y]++vs) S=some (.bl (lt x y),S)
 sw:Sw T lt
theorem bef{q:Nat}{e1 e2:E}(B:Bf k T lt f vs)(hn:noCS S=true)(hq:ev[q]? = some (some (.clo f vs)))(h1:e1 ev S=some (x,S))(h2:e2 ev S=some (y,S))(tx:T x)(ty:T y):za8 ft zer zmr (eV q) (aC e1 (aC e2 aN)) ev S=some (.bl (lt x y),S):=by
 obtain⟨g,hg,hc⟩:=B.ca;have nn:(noCL [x,y]&&noCL vs&&noCS S)=true/\[x,y].length=f.params.args.length:=⟨by rw[B.no,hn];simp only[noCL,B.nc x tx,B.nc y ty,qb2],B.two.symm⟩
 simp only[za8,e_v hq,Option.bind_some,hg,a_c h1 (a_c h2 a_n),z64 nn,hc x y tx ty]
theorem zgo(B:Bf k T lt f vs)(hn:noCS S=true)(tx:T x):∀(q:Nat) {d:D}{ts:List D}{h:Nat}{b:Bool},Mk k d ts h->h<q->Al T (ord b ts)->Srt lt (ord b ts)->kj q [d,.bl b,x,.clo f vs] S=some (.int (cb lt (ord b ts) x:Nat),S)
 |0,_,_,_,_,_,hq,_,_=>absurd hq (z9u _)
 | q+1,d,ts,h,b,m,hq,al,s=>by
   rcases zj7 m with⟨rfl,rfl,rfl⟩ | ⟨⟨xs,rfl⟩,u0,rest,e0⟩
   · have e:ord b ([]:List D)=[]:=by unfold ord;split<;>rfl
     rw[e];exact jq rfl (qi (z8 (qj (e_2 (e_v rfl) e_k rfl)) (zw e_k)))
   · have hh:0<h:=zdp m (by rw[e0];simp);obtain⟨u,t,y,c,xt,yt,xh,yh,c1,sn⟩:=ziv m hh b S;have hu:=sn.hu;have hx:=sn.hx;have hy:=sn.hy;rw[hu]at al s ⊢;have tt:T t:=al t (by simp);obtain⟨sa,sb,_⟩:=z6t.mp s;have sb':=(z7p.mp sb).2;have aX:Al T (ord c xt):=fun z hz=>al z (by simp[hz]);have aY:Al T (ord c yt):=fun z hz=>al z (by simp[hz]);rw[zui B.sw al tx s];have e1:bE (za8 ft zer zmr (eV 3) (aC (e2s qa (eV 4) (eK (.int 1))) (aC (eV 2) aN))) [some (.tup xs),some (.bl b),some x,some (.clo f vs),some (.tup [u,t,y,.bl c])] S=some (lt t x,S):=qj (bef B hn rfl (qw (e_v rfl) e_k rfl) (e_v rfl) tt tx);by_cases g:lt t x=true
     · rw[z64 g];rw[g]at e1;refine jq rfl (zh (zo (qj (e_2 (e_v rfl) e_k (zk3 xs)))) (zh (zv (zj (a_c (e_v rfl) (a_c (e_v rfl) a_n)) c1)) (qi (z8 e1 (zw (e_2 (e_2 (zj (a_c (qw (e_v rfl) e_k rfl) a_n) (yf sn.mx S)) e_k (add_int _ _)) (zj (a_c (qw (e_v rfl) e_k rfl) (a_c (qw (e_v rfl) e_k rfl) (a_c (e_v rfl) (a_c (e_v rfl) a_n)))) (zgo B hn tx q sn.my (by omega) aY sb')) ?_))))));rw[add_int,xx];congr 2
     · have g':lt t x=false:=z81.mpr g;rw[z7a g];rw[g']at e1;exact jq rfl (zh (zo (qj (e_2 (e_v rfl) e_k (zk3 xs)))) (zh (zv (zj (a_c (e_v rfl) (a_c (e_v rfl) a_n)) c1)) (zh (zo e1) (zw (zj (a_c (qw (e_v rfl) e_k rfl) (a_c (qw (e_v rfl) e_k rfl) (a_c (e_v rfl) (a_c (e_v rfl) a_n)))) (zgo B hn tx q sn.mx (by omega) aX sa))))))
structure Ste (k:Nat) (T:D->Prop) (lt:D->D->Bool) (d:D) (ts:List D) (h:Nat):Prop where
 mm:Mk k d ts h
 al:Al T ts
 sr:Srt lt ts
theorem zok(B:Bf k T lt f vs)(hn:noCS S=true)(tx:T x)(s:Ste k T lt d ts h)(hl:ts.length<=2000):zcp [d,x,.clo f vs] S=some (.int (cb lt ts x:Nat),S):=by have h1:=h15 s.mm hl;have:=zgo B hn tx 40 (b:=false) s.mm (by omega) (show Al T (ord false ts)from s.al) (show Srt lt (ord false ts)from s.sr);exact jq rfl (zw (zj (a_c (e_v rfl) (a_c e_k (a_c (e_v rfl) (a_c (e_v rfl) a_n)))) this))
theorem zs9(B:Bf k T lt f vs)(hn:noCS S=true)(tx:T x)(s:Ste k T lt d ts h)(hl:ts.length<=2000):zam [d,.int (cb lt ts x:Nat),x,.clo f vs] S=some (.bl (hs lt ts x),S):=by
 have hat:=z3e B.sw tx s.al s.sr;by_cases hp:cb lt ts x<ts.length
 · have hy:ts[cb lt ts x]? = some ts[cb lt ts x]:=z6s hp;have ty:=s.al _ (z87 hp);have e:hs lt ts x=!lt x ts[cb lt ts x]:=by
     rw[qbf,hat];constructor
     · rintro⟨y,q,r⟩;rw[hy]at q;cases q;rw[r];rfl
     · intro q;exact⟨_,hy,by cases g:lt x ts[cb lt ts x]with | false=>rfl | true=>rw[g]at q;cases q⟩
   rw[e];exact jq rfl (zw (zle (e_2 (e_v rfl) (zj (a_c (e_v rfl) a_n) (yf s.mm S)) ((zxc _ _).trans (by rw[z68 (by omega)]))) (z0z (bef B hn rfl (e_v rfl) (zj (a_c (e_v rfl) (a_c (e_v rfl) a_n)) (z30 s.mm hl hy S)) tx ty))))
 · have e:hs lt ts x=false:=by
     cases g:hs lt ts x with
     |false=>rfl
     |true=>obtain⟨y,q,_⟩:=hat.mp g;exact absurd (z6o.mp q).1 hp
   rw[e];exact jq rfl (zw (z00 (e_2 (e_v rfl) (zj (a_c (e_v rfl) a_n) (yf s.mm S)) ((zxc _ _).trans (by rw[z60 (by omega)])))))
theorem zt5(B:Bf k T lt f vs)(hn:noCS S=true)(tx:T x)(s:Ste k T lt d ts h)(hl:ts.length<=2000):zsf [d,x,.clo f vs] S=some (.bl (hs lt ts x),S) :=
 jq rfl (zw (zj (a_c (e_v rfl) (a_c (zj (a_c (e_v rfl) (a_c (e_v rfl) (a_c (e_v rfl) a_n))) (zok B hn tx s hl)) (a_c (e_v rfl) (a_c (e_v rfl) a_n)))) (zs9 B hn tx s hl)))
end Pg
namespace Pg
open PySem L2 F Mt
variable {d d0 l r t x y:D}{ts us rt:List D}{h i j g rh:Nat}{n:Int}{S S0 S1:Sto}{ev:Ev}{T:D->Prop}{lt:D->D->Bool}{f:LT}{vs:List D}
theorem zt4(a b:Int):([a] < [b])↔a<b:=by rw[z77];simp
theorem zz3(a b c d:Int):([a,b] < [c,d])↔(a<c\/a=c/\b<d):=by rw[z77,zt4]
theorem zz4(a c:Int)(b d:Str):(a::Srt.nums b<c::Srt.nums d)↔(a<c\/a=c/\b.cps.toList<d.cps.toList):=by rw[z77];have:(Srt.nums b<Srt.nums d)↔b.cps.toList<d.cps.toList:=Srt.map_lt _ _;rw[this]
theorem zkp{a b:Str}(h:Srt.nums a=Srt.nums b):a=b:=by obtain⟨a⟩:=a;obtain⟨b⟩:=b;refine z8y Str.mk (qb4.mp ?_);exact(List.map_inj_right fun x y e=>Int.ofNat.inj e).mp h
theorem zv8(h:kl x<4)(e:kl x=kl y)(c:zgb x=zgb y):x=y:=by
 have h':kl y<4:=e▸h;rcases jz h with⟨n,rfl⟩ | ⟨z,rfl⟩ | ⟨a,b,rfl⟩ | ⟨a,z,rfl⟩<;>rcases jz h' with⟨m,rfl⟩ | ⟨w,rfl⟩ | ⟨u,v,rfl⟩ | ⟨u,w,rfl⟩<;>first | (simp[kl]at e;done) | skip
 · rw[show n=m from List.head_eq_of_cons_eq c]
 · rw[zkp c]
 · obtain⟨c1,c2⟩:=z9x c;rw[c1,List.head_eq_of_cons_eq c2]
 · obtain⟨c1,c2⟩:=z9x c;rw[c1,zkp c2]
theorem zz1(h:kl x<4)(e:kl x=kl y):j7 x y=some (.bl (decide (zgb x=zgb y))):=by
 have h':kl y<4:=e▸h;have ei:∀(m:Nat) (i j:Int),eqN m (.int i) (.int j)=some (i==j):=fun m i j=>by cases m<;>rfl
 have es:∀(m:Nat) (i j:Str),eqN m (.str i) (.str j)=some (i==j):=fun m i j=>by cases m<;>rfl
 have key:∀b:Bool,eqN 150 x y=some b->(b=true↔x=y)->j7 x y=some (.bl (decide (zgb x=zgb y))):=fun b h1 h2=>by
   unfold j7;rw[h1];have:b=decide (zgb x=zgb y):=by rw[qbf,h2,decide_eq_true_iff];exact⟨fun q=>q▸rfl,zv8 h e⟩
   rw[this];rfl
 rcases jz h with⟨n,rfl⟩ | ⟨z,rfl⟩ | ⟨a,b,rfl⟩ | ⟨a,z,rfl⟩<;>rcases jz h' with⟨m,rfl⟩ | ⟨w,rfl⟩ | ⟨u,v,rfl⟩ | ⟨u,w,rfl⟩<;>first | (simp[kl]at e;done) | skip
 · exact key _ (ei _ _ _) (by simp)
 · exact key _ (es _ _ _) (by simp)
 · exact key ((a==u)&&((b==v)&&true)) (by show eqL (eqN 149) [.int a,.int b] [.int u,.int v]=_;simp[eqL,ei]) (by simp)
 · exact key ((a==u)&&((z==w)&&true)) (by show eqL (eqN 149) [.int a,.str z] [.int u,.str w]=_;simp[eqL,ei,es]) (by simp)
theorem zzy(h:kl x<4)(e:kl x=kl y):zl7 x y=some (.bl (decide (zgb x<zgb y))):=by
 have h':kl y<4:=e▸h;rcases jz h with⟨n,rfl⟩ | ⟨z,rfl⟩ | ⟨a,b,rfl⟩ | ⟨a,z,rfl⟩<;>rcases jz h' with⟨m,rfl⟩ | ⟨w,rfl⟩ | ⟨u,v,rfl⟩ | ⟨u,w,rfl⟩<;>first | (simp[kl]at e;done) | skip
 · show some (D.bl (decide (n<m)))=some (.bl (decide ([n] < [m])));rw[z71.mpr (zt4 n m)]
 · show some (D.bl (decide (z.cps.toList<w.cps.toList)))=some (.bl (decide (Srt.nums z<Srt.nums w)));rw[z71.mpr (show(Srt.nums z<Srt.nums w)↔z.cps.toList<w.cps.toList from Srt.map_lt _ _)]
 · show(zmf [.int a,.int b] [.int u,.int v]).map D.bl=some (.bl (decide ([a,b] < [u,v])));rw[z71.mpr (zz3 a b u v)];simp only[zmf];by_cases h:a=u
   · subst h;by_cases g:b=v
     · subst g;rw[z60 (show ¬ (a<a\/a=a/\b<b) by omega)];simp
     · simp[g]
   · simp[h]
 · show(zmf [.int a,.str z] [.int u,.str w]).map D.bl=some (.bl (decide (a::Srt.nums z<u::Srt.nums w)));rw[z71.mpr (zz4 a u z w)];simp only[zmf];by_cases h:a=u
   · subst h;by_cases g:z=w
     · subst g;rw[z60 (show ¬ (a<a\/a=a/\z.cps.toList<z.cps.toList)from fun q=>q.elim (fun z=>by omega) fun z=>qaj _ z.2)];simp
     · simp[g]
   · simp[h]
def Ti(x:D):Prop:=∃i,x=.int i
def Tw(x:D):Prop:=∃z,x=.str z/\z.length<=8
def iv:D->Int
 | .int i=>i
 |_=>0
def sv:D->Str
 | .str z=>z
 |_=>⟨#[]⟩
theorem zx8(z:Str)(lo hi:Option Int):(yn z lo hi).length<=z.length:=by
 unfold yn;split
 · exact z6l _
 · have h1:=PyProof.Rows.indices_len_le lo hi z.length;refine z67 ?_ h1;show(List.filterMap _ _).toArray.size<=_;rw[z6v];exact qb0 _ _
def zfa(κ:Int)(x:D):D:=if κ=1 then .int (0-iv x)else if κ=2 then .tup [.int (iv x%7),x]else if κ=3 then .int (iv x/3)else if κ=4 then .int (if iv x<0 then-iv x else iv x)else if κ=6 then .tup [.int (sv x).length,x]else if κ=7 then .str (yn (sv x) none (some 1))else x
def j9(κ:Int):D->Prop:=if κ<5 then Ti else Tw
theorem zhn{κ:Int}(h0:0<=κ)(h1:κ<8)(tx:j9 κ x):ja [.int κ,x] S=some (zfa κ x,S):=by
 have hz:sizeLine=16777216:=z7z;have:κ=0\/κ=1\/κ=2\/κ=3\/κ=4\/κ=5\/κ=6\/κ=7:=by omega
 rcases this with rfl | rfl | rfl | rfl | rfl | rfl | rfl | rfl
 · exact jq rfl (zh (zo (qj (e_2 (e_v rfl) e_k rfl))) (zh (zo (qj (e_2 (e_v rfl) e_k rfl))) (zh (zo (qj (e_2 (e_v rfl) e_k rfl))) (zh (zo (qj (e_2 (e_v rfl) e_k rfl))) (zh (zo (qj (e_2 (e_v rfl) e_k rfl))) (zh (zo (qj (e_2 (e_v rfl) e_k rfl))) (zw (e_v rfl))))))))
 · obtain⟨i,rfl⟩:=(show Ti x from tx)
   exact jq rfl (qi (z8 (qj (e_2 (e_v rfl) e_k rfl)) (zw (e_2 e_k (e_v rfl) (sub_int _ _)))))
 · obtain⟨i,rfl⟩:=(show Ti x from tx)
   exact jq rfl (zh (zo (qj (e_2 (e_v rfl) e_k rfl))) (qi (z8 (qj (e_2 (e_v rfl) e_k rfl)) (zw (zbp (a_c (e_2 (e_v rfl) e_k (y8 (by decide))) (a_c (e_v rfl) a_n)) (z7o rfl))))))
 · obtain⟨i,rfl⟩:=(show Ti x from tx)
   exact jq rfl (zh (zo (qj (e_2 (e_v rfl) e_k rfl))) (zh (zo (qj (e_2 (e_v rfl) e_k rfl))) (qi (z8 (qj (e_2 (e_v rfl) e_k rfl)) (zw (e_2 (e_v rfl) e_k (zmo (by decide))))))))
 · obtain⟨i,rfl⟩:=(show Ti x from tx)
   exact jq rfl (zh (zo (qj (e_2 (e_v rfl) e_k rfl))) (zh (zo (qj (e_2 (e_v rfl) e_k rfl))) (zh (zo (qj (e_2 (e_v rfl) e_k rfl))) (qi (z8 (qj (e_2 (e_v rfl) e_k rfl)) (zw (e_a (a_c (e_v rfl) a_n) rfl)))))))
 · exact jq rfl (zh (zo (qj (e_2 (e_v rfl) e_k rfl))) (zh (zo (qj (e_2 (e_v rfl) e_k rfl))) (zh (zo (qj (e_2 (e_v rfl) e_k rfl))) (zh (zo (qj (e_2 (e_v rfl) e_k rfl))) (zh (zo (qj (e_2 (e_v rfl) e_k rfl))) (zh (zo (qj (e_2 (e_v rfl) e_k rfl))) (zw (e_v rfl))))))))
 · obtain⟨z,rfl,hl⟩:=(show Tw x from tx)
   have ln:zc7 S [.str z]=some (.int z.length):=by show(if z.length<=sizeLine then some (D.int z.length)else none)=_;rw[z64 (by omega)]
   exact jq rfl (zh (zo (qj (e_2 (e_v rfl) e_k rfl))) (zh (zo (qj (e_2 (e_v rfl) e_k rfl))) (zh (zo (qj (e_2 (e_v rfl) e_k rfl))) (zh (zo (qj (e_2 (e_v rfl) e_k rfl))) (qi (z8 (qj (e_2 (e_v rfl) e_k rfl)) (zw (zbp (a_c (e_a (a_c (e_v rfl) a_n) ln) (a_c (e_v rfl) a_n)) (z7o rfl)))))))))
 · obtain⟨z,rfl,hl⟩:=(show Tw x from tx)
   have sl:zwz (eV 1) pN (pE (eK (.int 1))) [some (.int 7),some (.str z)] S=some (.str (yn z none (some 1)),S):=by
     have h2:=zx8 z none (some 1);have h3:(yn z none (some 1)).length<=sizeLine:=by omega
     simp[zwz,eV,pN,pE,eK,zvv,h3]
   exact jq rfl (zh (zo (qj (e_2 (e_v rfl) e_k rfl))) (zh (zo (qj (e_2 (e_v rfl) e_k rfl))) (zh (zo (qj (e_2 (e_v rfl) e_k rfl))) (zh (zo (qj (e_2 (e_v rfl) e_k rfl))) (zh (zo (qj (e_2 (e_v rfl) e_k rfl))) (qi (z8 (qj (e_2 (e_v rfl) e_k rfl)) (zw sl))))))))
def kq(κ:Int):Nat:=if κ=2 then 2 else if κ=6 then 3 else if κ<5 then 0 else 1
theorem kq4(κ:Int):kq κ<4:=by
 unfold kq;split
 · decide
 split
 · decide
 split<;>decide
theorem za1{κ:Int}(h0:0<=κ)(h1:κ<8)(tx:j9 κ x):kl (zfa κ x)=kq κ:=by
 have:κ=0\/κ=1\/κ=2\/κ=3\/κ=4\/κ=5\/κ=6\/κ=7:=by omega
 rcases this with rfl | rfl | rfl | rfl | rfl | rfl | rfl | rfl
 · obtain⟨i,rfl⟩:=(show Ti x from tx);rfl
 · obtain⟨i,rfl⟩:=(show Ti x from tx);rfl
 · obtain⟨i,rfl⟩:=(show Ti x from tx);rfl
 · obtain⟨i,rfl⟩:=(show Ti x from tx);rfl
 · obtain⟨i,rfl⟩:=(show Ti x from tx);rfl
 · obtain⟨z,rfl,hl⟩:=(show Tw x from tx);rfl
 · obtain⟨z,rfl,hl⟩:=(show Tw x from tx);rfl
 · obtain⟨z,rfl,hl⟩:=(show Tw x from tx);rfl
def cc(κ:Int)(x:D):List Int:=zgb (zfa κ x)
def ltk(κ:Int)(x y:D):Bool:=decide (cc κ x<cc κ y)
theorem z4h(κ:Int):Sw T (ltk κ) :=
 ⟨fun x _=>z60 (qaj _),fun x y z _ _ _ p q=>z68 (List.lt_trans (z9r p) (z9r q)),fun x y z _ _ _ p=>by
   have p:=z9r p;by_cases q:cc κ x<cc κ y
   · exact .inl (z68 q)
   · refine .inr (z68 ?_);by_cases g:cc κ y<cc κ z
     · exact g
     · exact absurd p (z8g.mpr (List.le_trans (z8g.mp g) (z8g.mp q)))⟩
theorem alk_cc{κ:Int}:alk (ltk κ) x y↔cc κ x=cc κ y:=by
 unfold alk ltk;rw[z9z,z9z];constructor
 · rintro⟨a,b⟩;exact qa9 (z8g.mp b) (z8g.mp a)
 · intro e;rw[e];exact⟨qaj _,qaj _⟩
theorem zz2{κ:Int}(h0:0<=κ)(h1:κ<8)(tx:j9 κ x)(ty:j9 κ y):j7 (zfa κ x) (zfa κ y)=some (.bl (decide (cc κ x=cc κ y))) :=
 zz1 (by rw[za1 h0 h1 tx];exact kq4 κ) (by rw[za1 h0 h1 tx,za1 h0 h1 ty])
theorem zzv{κ:Int}(h0:0<=κ)(h1:κ<8)(tx:j9 κ x)(ty:j9 κ y):zl7 (zfa κ x) (zfa κ y)=some (.bl (ltk κ x y)) :=
 zzy (by rw[za1 h0 h1 tx];exact kq4 κ) (by rw[za1 h0 h1 tx,za1 h0 h1 ty])
theorem ze1{κ:Int}(tx:j9 κ x):Thing 0 x:=by
 unfold j9 at tx;split at tx
 · exact .inl tx
 · exact .inr tx
theorem zur{k:Nat}[Kd k]{κ:Int}(hk:k=0\/5<=κ)(tx:j9 κ x):Thing k x:=by
 rcases Kd.eq (k:=k)with e | e
 · subst e;exact ze1 tx
 · subst e;unfold j9 at tx;rw[z7a (by rcases hk with h | h<;>omega)]at tx;obtain⟨z,rfl,h⟩:=tx;exact⟨z,rfl,by omega⟩
theorem zo0{κ:Int}(tx:j9 κ x):noC x=true:=by rcases ze1 tx with⟨i,rfl⟩ | ⟨z,rfl,_⟩<;>rfl
theorem zgp{cn:B}{fr:Ev}{p:D->Bool}:∀(ds:List D),(∀x∈ds,cn (some x::fr) S=some (p x,S))->zef cn (eV 0) fr ds S=some (ds.filter p,S)
 | [],_=>rfl
 | x::ds,hc=>by
   have ih:=zgp ds fun y hy=>hc y (z6r _ hy);unfold zef;rw[hc x (z6w ..)];simp only[Option.bind_some];cases g:p x with
   | true=>
     rw[z64 rfl,z90 g];show((eV 0 (some x::fr) S).bind fun q=>(zef cn (eV 0) fr ds q.2).bind fun r=>some (q.1::r.1,r.2))=_;rw[show eV 0 (some x::fr) S=some (x,S)from rfl];simp only[Option.bind_some,ih]
   | false=>
     rw[z7a (by simp),z8v (by rw[g];simp)];exact ih
theorem zh0{fr:List Nat}{e:E}{cn:B}{p:D->Bool}(he:e ev S=some (.lst ts,S))(hc:∀x∈ts,cn (some x::fr.map (zg3 ev)) S=some (p x,S)):xc fr (zih e) cn (eV 0) ev S=some (.lst (ts.filter p),S):=by unfold xc zih;rw[he];simp only[Option.bind_some,zao,zgp ts hc,Option.map_some]
theorem zzi{κ:Int}(h0:0<=κ)(h1:κ<8)(tx:j9 κ x):noC (zfa κ x)=true:=by
 have h:kl (zfa κ x)<4:=by rw[za1 h0 h1 tx];exact kq4 κ
 rcases jz h with⟨n,e⟩ | ⟨z,e⟩ | ⟨a,b,e⟩ | ⟨a,z,e⟩<;>rw[e]<;>rfl
theorem zce{c:D->List Int}(al:Al T ts):Al T (q8 c ts):=fun x hx=>al x ((jo ts).mem_iff.mp hx)
theorem zpg{κ:Int}(hd:ts.Pairwise fun x y=>cc κ x≠cc κ y):Srt (ltk κ) (q8 (cc κ) ts):=by
 have p1:=zd0 (c:=cc κ) ts;have p2:(q8 (cc κ) ts).Pairwise fun x y=>cc κ x≠cc κ y:=(jo ts).symm.pairwise hd fun h=>h.symm;refine(p1.and p2).imp fun {x y} q=>z68 ?_;by_cases g:cc κ x<cc κ y
 · exact g
 · exact absurd (qa9 (z8g.mp q.1) (z8g.mp g)) q.2
theorem zrc{κ:Int}(h0:0<=κ)(h1:κ<8)(al:Al (j9 κ) ts)(hd:ts.Pairwise fun x y=>cc κ x≠cc κ y):zns (ts.map (zfa κ)) ts=some (q8 (cc κ) ts):=by
 have hk:∀d∈ts.map (zfa κ),kl d=kq κ:=fun d hd=>by obtain⟨x,hx,rfl⟩:=z9k.mp hd;exact za1 h0 h1 (al x hx)
 have hkn:(ts=[]/\kn (ts.map (zfa κ))=0)\/kn (ts.map (zfa κ))=kq κ:=by
   cases ts with
   |nil=>exact .inl ⟨rfl,rfl⟩
   |cons x ts=>exact .inr (hk _ (by simp))
 unfold zns;have hp:(ts.map (zfa κ)).map zgb=ts.map (cc κ):=by rw[qar];rfl
 have hcond:kn (ts.map (zfa κ))<4/\(∀d∈ts.map (zfa κ),kl d=kn (ts.map (zfa κ)))/\((ts.map (zfa κ)).map zgb).Pairwise (·≠·):=by
   refine⟨?_,?_,?_⟩
   · rcases hkn with⟨_,e⟩ | e
     · rw[e];decide
     · rw[e];exact kq4 κ
   · rcases hkn with⟨e,_⟩ | e
     · subst e;intro d hd;cases hd
     · rw[e];exact hk
   · rw[hp,qa1];exact hd
 rw[z64 hcond,hp];have e:(ts.map (cc κ)).zip ts=ts.map (fun d=>(cc κ d,d)):=by
   clear al hd hk hkn hp hcond
   induction ts with
   |nil=>rfl
   |cons x ts ih=>rw[z65,z65,List.zip_cons_cons,ih]
 rw[e,zbi (c:=cc κ) (c':=fun p:List Int×D=>p.1) (fun d=>(cc κ d,d)) (fun _=>rfl),qar];exact z8y some (List.map_id _)
theorem zed{cn:B}{fr:Ev}{p:D->Bool}{a:Nat}(ha:S[a]? = some (.lst us)):∀(ds:List D),(∀x∈ds,cn (some x::fr) S=some (p x,S))->yu a us cn (eV 0) fr ds S=some (ds.filter p,S)
 | [],_=>zfk ha
 | x::ds,hc=>by
   have ih:=zed ha ds fun y hy=>hc y (z6r _ hy);rw[zee ha,hc x (z6w ..)];simp only[Option.bind_some];cases g:p x with
   | true=>
     rw[z64 rfl,z90 g];show((eV 0 (some x::fr) S).bind fun q=>(yu a us cn (eV 0) fr ds q.2).bind fun r=>some (q.1::r.1,r.2))=_;rw[show eV 0 (some x::fr) S=some (x,S)from rfl];simp only[Option.bind_some,ih]
   | false=>
     rw[z7a (by simp),z8v (by rw[g];simp)];exact ih
theorem z1b{fr:List Nat}{e:E}{cn:B}{p:D->Bool}{a:Nat}(he:e ev S=some (.obj a,S))(ha:S[a]? = some (.lst us))(hc:∀x∈us,cn (some x::fr.map (zg3 ev)) S=some (p x,S)):xc fr (zih e) cn (eV 0) ev S=some (.lst (us.filter p),S):=by unfold xc zih;rw[he];simp only[Option.bind_some,ha,zao,zed ha us hc,Option.map_some]
end Pg
namespace Pg
open PySem L2 F Mt
variable {k:Nat} [Kd k] {d d0 l r t x y:D}{ts us rt:List D}{h i j g rh:Nat}{n:Int}{S S0 S1:Sto}{ev:Ev}{T:D->Prop}{lt:D->D->Bool}{f:LT}{vs:List D}
theorem z31:(Str.ofString "abc").length<=sizeLine:=by decide +kernel
theorem z1o:(Str.ofString "abc").cps.toList.length=3:=by decide +kernel
theorem z32(c:Int):∃z,∀S:Sto,qa S (.str (Str.ofString "abc")) (.int (c%3))=some (.str ⟨#[z]⟩):=by
 have x0:=z8j c (show(3:Int)≠0 by decide);have x1:=z74 c (show(0:Int)<3 by decide);generalize c%3=z at x0 x1;have hat:∃c,atI (Str.ofString "abc").cps.toList z=some c:=by
   have hz:z.toNat<(Str.ofString "abc").cps.toList.length:=by rw[z1o];omega
   have e3:=zen (z6s hz);rw[show((z.toNat:Nat):Int)=z by omega]at e3;exact⟨_,e3⟩
 obtain⟨y,hy⟩:=hat;refine⟨y,fun S=>?_⟩;unfold qa;simp only[z64 z31,hy];rfl
def tE8:E:=zb3 (aC (eK (.int 8)) (aC (eK (.int 24)) (aC (eK (.int 72)) (aC (eK (.int 216)) (aC (eK (.int 648)) (aC (eK (.int 1944)) (aC (eK (.int 5832)) (aC (eK (.int 17496)) aN))))))))
theorem z2f:tE8 ev S=some (.tup [.int 8,.int 24,.int 72,.int 216,.int 648,.int 1944,.int 5832,.int 17496],S):=zbp (a_c e_k (a_c e_k (a_c e_k (a_c e_k (a_c e_k (a_c e_k (a_c e_k (a_c e_k a_n)))))))) (z7o rfl)
def tB:C:=qp 2 (e2 qh (eV 2) (e2s qa (eK (.str (Str.ofString "abc"))) (e2 qz (e2 zdl (eV 1) (e2s qa tE8 (eV 3))) (eK (.int 3)))))
theorem ztg(κ c:Int):∀(m lo:Nat) (z:Str) (o:Option D),lo+m<=8->z.length<=lo->∃z':Str,z'.length<=8/\∃o',∀S,za0 3 tB (jc (lo:Int) m) [some (.int κ),some (.int c),some (.str z),o] S=some (.nx [some (.int κ),some (.int c),some (.str z'),o'],S)
 |0,lo,z,o,hm,hz=>⟨z,by omega,o,fun S=>rfl⟩
 | m+1,lo,z,o,hm,hz=>by
   have hs:sizeLine=16777216:=z7z;obtain⟨q,hq,iq⟩:∃q:Int,(0<q/\q<1073741824)/\∀S:Sto,qa S (.tup [.int 8,.int 24,.int 72,.int 216,.int 648,.int 1944,.int 5832,.int 17496]) (.int lo)=some (.int q):=by
     have:lo=0\/lo=1\/lo=2\/lo=3\/lo=4\/lo=5\/lo=6\/lo=7:=by omega
     rcases this with rfl | rfl | rfl | rfl | rfl | rfl | rfl | rfl
     · exact⟨8,by decide,fun S=>rfl⟩
     · exact⟨24,by decide,fun S=>rfl⟩
     · exact⟨72,by decide,fun S=>rfl⟩
     · exact⟨216,by decide,fun S=>rfl⟩
     · exact⟨648,by decide,fun S=>rfl⟩
     · exact⟨1944,by decide,fun S=>rfl⟩
     · exact⟨5832,by decide,fun S=>rfl⟩
     · exact⟨17496,by decide,fun S=>rfl⟩
   obtain⟨y,hy⟩:=z32 (c/q);have l1:(⟨#[y]⟩:Str).length=1:=rfl;have ad:qh (.str z) (.str ⟨#[y]⟩)=some (.str (z++⟨#[y]⟩)):=by show(if z.length+(⟨#[y]⟩:Str).length<=sizeLine then some (D.str (z++⟨#[y]⟩))else none)=_;rw[z64 (by omega)]
   obtain⟨z',hz',o',ih⟩:=ztg κ c m (lo+1) (z++⟨#[y]⟩) (some (.int lo)) (by omega) (by rw[Mt.str_len];omega);refine⟨z',hz',o',fun S=>?_⟩;rw[ze6,show((lo:Int)+1)=((lo+1:Nat):Int)from rfl];exact zbx (zv (e_2 (e_v rfl) (qw e_k (e_2 (e_2 (e_v rfl) (qw z2f (e_v rfl) (iq _)) (zmo hq)) e_k (y8 (by decide))) (hy _)) ad)) (ih S)
theorem p60:zdk (.int 10) (.int 60)=some (.int (10^60)):=by
 have:ztt 10 60=some (10^60):=by unfold ztt;rw[z64 (by decide)];rfl
 simp only[zdk,F.opI,this];rfl
theorem p6:zdk (.int 982451653) (.int 6)=some (.int (982451653^6)):=by
 have:ztt 982451653 6=some (982451653^6):=by unfold ztt;rw[z64 (by decide)];rfl
 simp only[zdk,F.opI,this];rfl
theorem zq8{κ:Int}(h0:0<=κ)(h1:κ<8)(c:Int)(c0:0<=c)(c1:c<999999937):∃x,j9 κ x/\∀S,xr [.int κ,.int c] S=some (x,S):=by
 by_cases q:κ<5
 · have lt5:∀S,bE (e2 zc4 (eV 0) (eK (.int 5))) [some (.int κ),some (.int c),none,none] S=some (true,S):=fun S=>qj (e_2 (e_v rfl) e_k ((zxc _ _).trans (by rw[z68 q])));by_cases z:c%9=0
   · refine⟨.int ((c+5)*982451653^6%(2*10^60-7)+1-10^60),?_,fun S=>jq rfl (qi (z8 (zem (lt5 S) (qj (e_2 (e_2 (e_v rfl) e_k (y8 (by decide))) e_k ((zwv _ _).trans (by rw[z68 z]))))) (zw (e_2 (e_2 (e_2 (e_2 (e_2 (e_v rfl) e_k (add_int _ _)) (e_2 e_k e_k p6) (zku (by omega))) (e_2 (e_2 e_k (e_2 e_k e_k p60) (zku (by decide))) e_k (sub_int _ _)) (y8 (by decide))) e_k (add_int _ _)) (e_2 e_k e_k p60) (sub_int _ _)))))⟩;unfold j9;rw[z64 q];exact⟨_,rfl⟩
   · refine⟨.int (c/9%81-40),?_,fun S=>jq rfl (zh (zo (zem (lt5 S) (qj (e_2 (e_2 (e_v rfl) e_k (y8 (by decide))) e_k ((zwv _ _).trans (by rw[z60 z])))))) (qi (z8 (lt5 S) (zw (e_2 (e_2 (e_2 (e_v rfl) e_k (zmo (by decide))) e_k (y8 (by decide))) e_k (sub_int _ _))))))⟩;unfold j9;rw[z64 q];exact⟨_,rfl⟩
 · have lt5:∀S,bE (e2 zc4 (eV 0) (eK (.int 5))) [some (.int κ),some (.int c),none,none] S=some (false,S):=fun S=>qj (e_2 (e_v rfl) e_k ((zxc _ _).trans (by rw[z60 q])));have w0:=z8j c (show(8:Int)≠0 by decide);have w1:=z74 c (show(0:Int)<8 by decide);obtain⟨z,hz,o',lp⟩:=ztg κ c (1+c%8).toNat 0 ⟨#[]⟩ none (by omega) (by decide);refine⟨.str z,?_,fun S=>jq rfl (zh (zo (zln (lt5 S))) (zh (zo (lt5 S)) (zh (zv (d:=.str ⟨#[]⟩) e_k) (zh (znp (b:=tB) (e_2 e_k (e_2 (e_v rfl) e_k (y8 (by decide))) (add_int _ _)) (by omega) (by omega) (lp S)) (zw (e_v rfl))))))⟩;unfold j9;rw[z7a q];exact⟨z,rfl,hz⟩
theorem zu3{e:E}{g:G}{j:Nat}{y:Str}{t:LT}{is:List Nat}{kv us ks r:List D}(he:e ev S=some (d,S))(hs:z2m S d=some us)(hj:S[j]? = some (.tab y t.qual))(hl:us.length<=100000)(hc:zh2 ev is=some kv)(hk:zi9 g t.params.args.length kv us S=some (ks,S))(hr:zns ks us=some r):zfh e g j y t is ev S=some (.lst r,S):=by unfold zfh;simp only[he,Option.bind_some,hs,hj,hc,hk,hr,Option.map_some];exact z64 ⟨trivial,trivial,hl⟩
theorem zkz{g:G}{kv:List D}{ky:D->D}(hn:noCS S=true)(hv:noCL kv=true):∀{us:List D},(∀d∈us,noC d=true/\noC (ky d)=true/\g ([d]++kv) S=some (ky d,S))->zi9 g 1 kv us S=some (us.map ky,S)
 | [],_=>rfl
 | d::us,h=>by obtain⟨h1,h2,h3⟩:=h d (z6w ..);have ih:=zkz hn hv fun z hz=>h z (z6r _ hz);unfold zi9;rw[z64 ⟨by rw[hn,hv];simp[noCL,h1],rfl⟩,h3];simp only[Option.bind_some,h2,hn,Bool.and_self,z8f,ih,Option.map_some,z65]
theorem zjq{g:G}{a:As}{q:Nat}{t:LT}{cl:zLA}{is:List Nat}{ds kv:List D}{S2:Sto}(ha:a ev S=some (ds,S1))(hq:ev[q]? = some (some (.lam { t with cl:=cl })))(hc:zh2 ev is=some kv)(hg:g (ds++[.clo t kv]) S1=some (d,S2))(h1:noC d=true)(h2:noCS S2=true):zea g a q t cl is ev S=some (d,S2):=by simp only[zea,ha,Option.bind_some,hq,z8f,hc,hg,h1,h2,Bool.and_self]
theorem zzu{j:Nat}{y:Str}{t:LT}(ht':S[j]? = some (.tab y ((y++".<locals>.")++"<lambda>")))(ht:t.qual=(y++".<locals>.")++"<lambda>"):zud j y t ev S=some (.lam t,S):=by unfold zud;rw[ht'];exact z64 ⟨rfl,ht.symm⟩
theorem zhl{f:E}(h:f ev S=some (.lst ts,S1)):zch f ev S=some (.lst ts.reverse,S1):=by simp[zch,h]
theorem zt0(l:List D):zi0 (.lst l) (.lst [])=some (.bl !l.isEmpty):=by cases l<;>rfl
theorem z50:lt_1≠lt_0:=fun e=>by have:=z8y (fun t:LT=>t.params.args.length) e;exact absurd this (by decide)
theorem z0f{κ:Int}(h0:0<=κ)(h1:κ<8)(tx:j9 κ x)(ty:j9 κ y):z1w ([x,y]++[.int κ]) S=some (.bl (ltk κ x y),S):=by show z1y [some x,some y,some (.int κ)] S=_;exact e_2 (zj (a_c (e_v rfl) (a_c (e_v rfl) a_n)) (zhn h0 h1 tx)) (zj (a_c (e_v rfl) (a_c (e_v rfl) a_n)) (zhn h0 h1 ty)) (zzv h0 h1 tx ty)
theorem z0g{κ:Int}(h0:0<=κ)(h1:κ<8)(tx:j9 κ x):z0e ([x]++[.int κ]) S=some (zfa κ x,S):=by show z1z [some x,some (.int κ)] S=_;exact zj (a_c (e_v rfl) (a_c (e_v rfl) a_n)) (zhn h0 h1 tx)
theorem z3z{k:Nat}[Kd k]{κ:Int}(hk:k=0\/5<=κ)(h0:0<=κ)(h1:κ<8):Bf k (j9 κ) (ltk κ) lt_1 [.int κ] :=
 ⟨rfl,rfl,fun x hx=>zur hk hx,fun x hx=>zo0 hx,⟨z1w,by unfold zmr;rw[z7a z50,z64 rfl],fun x y hx hy S=>z0f h0 h1 hx hy⟩,z4h κ⟩
def kT:B:=(bE (e2 j7 (zn ja (aC (eV 1) (aC (eV 0) aN))) (zn ja (aC (eV 1) (aC (eV 2) aN)))))
theorem zz5{κ:Int}(h0:0<=κ)(h1:κ<8)(tx:j9 κ x)(ty:j9 κ y):kT [some x,some (.int κ),some y] S=some (decide (cc κ x=cc κ y),S) :=
 qj (e_2 (zj (a_c (e_v rfl) (a_c (e_v rfl) a_n)) (zhn h0 h1 tx)) (zj (a_c (e_v rfl) (a_c (e_v rfl) a_n)) (zhn h0 h1 ty)) (zz2 h0 h1 tx ty))
def dd(κ:Int):List D->List D->List D
 |us,[]=>us
 |us,x::xs=>if us.filter (fun z=>decide (cc κ z=cc κ x))=[]then dd κ (us++[x]) xs else dd κ us xs
def alB:C:=(sIf (zbq (bE (zn jl (aC (eV 0) (aC (eV 3) (aC (eV 2) aN)))))) (xg (eV 2) (eV 3)) je)
theorem zqv{κ:Int}(h0:0<=κ)(h1:κ<8)(tx:j9 κ x)(al:Al (j9 κ) us):jl [.int κ,x,.lst us] S=some (.bl (!(us.filter fun z=>decide (cc κ z=cc κ x)).isEmpty),S) :=
 jq rfl (zw (e_2 (zh0 (e_v rfl) fun z hz=>zz5 h0 h1 (al z hz) tx) (zsp (ds:=[]) a_n (z7k _)) (zt0 _)))
theorem zw7{κ:Int}{a:Nat}(h0:0<=κ)(h1:κ<8)(tx:j9 κ x)(al:Al (j9 κ) us)(ha:S[a]? = some (.lst us)):jl [.int κ,x,.obj a] S=some (.bl (!(us.filter fun z=>decide (cc κ z=cc κ x)).isEmpty),S) :=
 jq rfl (zw (e_2 (z1b (e_v rfl) ha fun z hz=>zz5 h0 h1 (al z hz) tx) (zsp (ds:=[]) a_n (z7k _)) (zt0 _)))
theorem zmj{κ:Int}:hs (ltk κ) us x=!(us.filter fun z=>decide (cc κ z=cc κ x)).isEmpty:=by
 rw[qbf,hs_iff];constructor
 · rintro⟨z,hz,a⟩;have hz:z∈us.filter (fun z=>decide (cc κ z=cc κ x)):=z83.mpr ⟨hz,z68 (alk_cc.mp a)⟩;cases g:us.filter (fun z=>decide (cc κ z=cc κ x)) with
   |nil=>rw[g]at hz;cases hz
   |cons z m=>rfl
 · intro q;cases g:us.filter (fun z=>decide (cc κ z=cc κ x)) with
   |nil=>rw[g]at q;cases q
   | cons z m=>
     have hz:z∈us.filter (fun z=>decide (cc κ z=cc κ x)):=by rw[g];exact z6w ..
     obtain⟨z1,z2⟩:=z83.mp hz;exact⟨z,z1,alk_cc.mpr (z9r z2)⟩
theorem znl{κ:Int}(h0:0<=κ)(h1:κ<8)(tx:j9 κ x)(al:Al (j9 κ) us)(v:D)(hl:us.length<16777216):alB [some (.int κ),some v,some (.obj S.length),some x] (S++[.lst us])=some (.nx [some (.int κ),some v,some (.obj S.length),some x],S++[.lst (if us.filter (fun z=>decide (cc κ z=cc κ x))=[]then us++[x]else us)]):=by
 have hat:(S++[MO.lst us])[S.length]? = some (.lst us):=zf8 S _;have t:=qj (zj (a_c (f:=eV 0) (ev:=[some (.int κ),some v,some (.obj S.length),some x]) (e_v rfl) (a_c (f:=eV 3) (e_v rfl) (a_c (f:=eV 2) (e_v rfl) a_n))) (zw7 h0 h1 tx al hat));by_cases hf:us.filter (fun z=>decide (cc κ z=cc κ x))=[]
 · rw[z64 hf];rw[hf]at t;have:=zb9 (q:=2) (j:=S.length) (S:=S++[.lst us]) (us:=us) (v:=eV 3) (x:=x) (ev:=[some (.int κ),some v,some (.obj S.length),some x]) rfl hat (e_v rfl) hl;exact z8 (z43 t) (by simpa using this)
 · rw[z7a hf];have he:(us.filter fun z=>decide (cc κ z=cc κ x)).isEmpty=false:=by
     cases g:us.filter fun z=>decide (cc κ z=cc κ x) with
     |nil=>exact absurd g hf
     |cons _ _=>rfl
   rw[he]at t;exact zo (zq2 t)
theorem zjo{κ:Int}:∀{xs us:List D},Al (j9 κ) us->Al (j9 κ) xs->Al (j9 κ) (dd κ us xs)
 | [],us,h,_=>h
 | x::xs,us,h,h'=>by
   unfold dd;split
   · exact zjo (fun z hz=>(z62.mp hz).elim (h z) fun e=>by rw[z6q.mp e];exact h'.head) h'.tail
   · exact zjo h h'.tail
theorem zqd{κ:Int}:∀{xs us:List D},us.Pairwise (fun x y=>cc κ x≠cc κ y)->(dd κ us xs).Pairwise (fun x y=>cc κ x≠cc κ y)
 | [],us,h=>h
 | x::xs,us,h=>by
   unfold dd;split
   · rename_i hf;refine zqd (z6t.mpr ⟨h,z9a _ _,fun a ha b hb e=>?_⟩);rw[z6q.mp hb]at e;exact List.filter_eq_nil_iff.mp hf a ha (z68 e)
   · exact zqd h
theorem zfj{κ:Int}:∀{xs us:List D},(dd κ us xs).length<=us.length+xs.length
 | [],us=>by simp[dd]
 | x::xs,us=>by
   unfold dd;split
   · have:=zfj (κ:=κ) (xs:=xs) (us:=us++[x]);simp at this ⊢;omega
   · have:=zfj (κ:=κ) (xs:=xs) (us:=us);simp;omega
theorem zst{κ:Int}:∀{xs us:List D},xs.Pairwise (fun x y=>cc κ x≠cc κ y)->dd κ us xs=us++xs.filter (fun x=>!hs (ltk κ) us x)
 | [],us,_=>by simp[dd]
 | x::xs,us,h=>by
   obtain⟨h1,h2⟩:=z7p.mp h;unfold dd;by_cases hf:us.filter (fun z=>decide (cc κ z=cc κ x))=[]
   · rw[z64 hf,zst h2,z90 (by rw[zmj,hf];rfl),z61];congr 1;show x::_=x::_;congr 1;refine List.filter_congr fun y hy=>?_;congr 1;rw[zmj,zmj,qbq,z8v (by simpa using h1 y hy)];simp
   · rw[z7a hf,zst h2,z8v (by
       rw[zmj];cases g:us.filter fun z=>decide (cc κ z=cc κ x) with
       |nil=>exact absurd g hf
       |cons _ _=>simp)]
theorem zjn{κ:Int}(h0:0<=κ)(h1:κ<8)(v:D):∀(xs us:List D) (o:Option D),Al (j9 κ) xs->Al (j9 κ) us->us.length+xs.length<16777216->∃o',za0 3 alB xs [some (.int κ),some v,some (.obj S.length),o] (S++[.lst us])=some (.nx [some (.int κ),some v,some (.obj S.length),o'],S++[.lst (dd κ us xs)])
 | [],us,o,_,_,_=>⟨o,rfl⟩
 | x::xs,us,o,hx,hu,hl=>by
   rw[List.length_cons]at hl;have t:=znl (S:=S) h0 h1 hx.head hu v (by omega);unfold dd;split
   · rename_i hf;rw[z64 hf]at t;obtain⟨o',ih⟩:=zjn h0 h1 v xs (us++[x]) (some x) hx.tail (fun z hz=>(z62.mp hz).elim (hu z) fun e=>by rw[z6q.mp e];exact hx.head) (by simp;omega);exact⟨o',zbx t ih⟩
   · rename_i hf;rw[z7a hf]at t;obtain⟨o',ih⟩:=zjn h0 h1 v xs us (some x) hx.tail hu (by omega);exact⟨o',zbx t ih⟩
theorem zr6{a i q j:Nat}{b:C}{ys:List D}{e:Ev}{S1 S2:Sto}{o:Out}(ha:S[a]? = some (.lst ys))(hj:j<ys.length)(h:b (ev.set i (some ys[j])) S=some (.nx e,S1))(hq:zc0 a i b q (j+1) e S1=some (o,S2)):zc0 a i b (q+1) j ev S=some (o,S2):=by unfold zc0;simp only[ha,z6s hj,h,Option.bind_some,hq]
theorem zo8{a i q j:Nat}{b:C}{ys:List D}(ha:S[a]? = some (.lst ys))(hj:¬ j<ys.length):zc0 a i b (q+1) j ev S=some (.nx ev,S):=by unfold zc0;simp only[ha,List.getElem?_eq_none (z92.mp hj)]
theorem zli{κ:Int}{a:Nat}{ys:List D}(h0:0<=κ)(h1:κ<8)(ha:S[a]? = some (.lst ys))(hy:Al (j9 κ) ys):∀(q j:Nat) (us:List D) (o:Option D),ys.length-j<q->j<=ys.length->Al (j9 κ) us->us.length+(ys.length-j)<16777216->∃o',zc0 a 3 alB q j [some (.int κ),some (.obj a),some (.obj S.length),o] (S++[.lst us])=some (.nx [some (.int κ),some (.obj a),some (.obj S.length),o'],S++[.lst (dd κ us (ys.drop j))])
 |0,j,us,o,hq,_,_,_=>absurd hq (z9u _)
 | q+1,j,us,o,hq,hj,hu,hl=>by
   have ha':∀m,(S++[m])[a]? = some (.lst ys):=fun m=>by rw[z7d (z6o.mp ha).1];exact ha
   by_cases hlt:j<ys.length
   · have tx:=hy _ (z87 hlt);have t:=znl (S:=S) h0 h1 tx hu (.obj a) (by omega);rw[z70 hlt];have ed:dd κ us (ys[j]::ys.drop (j+1))=dd κ (if us.filter (fun z=>decide (cc κ z=cc κ ys[j]))=[]then us++[ys[j]]else us) (ys.drop (j+1)):=by show(if us.filter (fun z=>decide (cc κ z=cc κ ys[j]))=[]then dd κ (us++[ys[j]]) (ys.drop (j+1))else dd κ us (ys.drop (j+1)))=_;split<;>rfl
     rw[ed];have hu2:Al (j9 κ) (if us.filter (fun z=>decide (cc κ z=cc κ ys[j]))=[]then us++[ys[j]]else us):=by
       split
       · exact fun z hz=>(z62.mp hz).elim (hu z) fun e=>by rw[z6q.mp e];exact tx
       · exact hu
     have hl2:(if us.filter (fun z=>decide (cc κ z=cc κ ys[j]))=[]then us++[ys[j]]else us).length<=us.length+1:=by split<;>simp
     generalize (if us.filter (fun z=>decide (cc κ z=cc κ ys[j]))=[]then us++[ys[j]]else us)=us2 at t hu2 hl2;obtain⟨o',ih⟩:=zli h0 h1 ha hy q (j+1) us2 (some ys[j]) (by omega) hlt hu2 (by omega);exact⟨o',zr6 (ha' _) hlt t ih⟩
   · rw[z95 (z92.mp hlt)];exact⟨o,zo8 (ha' _) hlt⟩
theorem zf2{κ:Int}:∀{l:List D},Al (j9 κ) l->noCL l=true
 | [],_=>rfl
 | x::l,h=>by unfold noCL;rw[zo0 h.head,zf2 h.tail];rfl
theorem ze2{κ:Int}(h0:0<=κ)(h1:κ<8){v:D}{o3:Option D}(al:Al (j9 κ) us)(pw:us.Pairwise fun x y=>cc κ x≠cc κ y)(hl:us.length<=100000)(hc:noCS S=true)(ht:S[1]? = some (.tab "_law_sorted" ((("_law_sorted":Str)++".<locals>.")++"<lambda>"))) :
   zfh (eV 2) z0e 1 "_law_sorted" lt_0 [0] [some (.int κ),some v,some (.obj S.length),o3] (S++[.lst us])=some (.lst (q8 (cc κ) us),S++[.lst us]):=by
 have hn2:noCS (S++[.lst us])=true:=by unfold noCS at *;rw[List.all_append,hc];show(true&&(zij (.lst us)&&true))=true;rw[show zij (.lst us)=noCL us from rfl,zf2 al];rfl
 refine zu3 (us:=us) (kv:=[.int κ]) (ks:=us.map (zfa κ)) (e_v rfl) ?_ ?_ hl rfl ?_ (zrc h0 h1 al pw)
 · show(match (S++[MO.lst us])[S.length]? with | some (.lst ds)=>some ds | _=>none)=some us;rw[zf8]
 · rw[z7d (z6o.mp ht).1];exact ht
 · exact zkz hn2 rfl fun x hx=>⟨zo0 (al x hx),zzi h0 h1 (al x hx),z0g h0 h1 (al x hx)⟩
theorem zke{κ:Int}{xs:List D}(h0:0<=κ)(h1:κ<8)(hx:Al (j9 κ) xs)(hl:xs.length<=1000)(hS:SB S)(hc:noCS S=true)(ht:S[1]? = some (.tab "_law_sorted" ((("_law_sorted":Str)++".<locals>.")++"<lambda>"))):q9 [.int κ,.lst xs] S=some (.lst (q8 (cc κ) (dd κ [] xs)),S):=by have al:Al (j9 κ) (dd κ [] xs):=zjo (fun z hz=>by cases hz) hx;have ll:=zfj (κ:=κ) (xs:=xs) (us:=[]);obtain⟨o',lp⟩:=zjn (S:=S) h0 h1 (.lst xs) xs [] none hx (fun z hz=>by cases hz) (by simp;omega);refine zjf (J:=[.lst (dd κ [] xs)]) hS (jq rfl (zh (zv (zfg a_n (z7k _))) (zh (e:=[some (.int κ),some (.lst xs),some (.obj S.length),o']) (S1:=S++[.lst (dd κ [] xs)]) ?_ (zw (ze2 h0 h1 al (zqd List.Pairwise.nil) (by simp at ll;omega) hc ht))))) (xm (k:=0) fun x hx=>ze1 (zce al x hx));show zyf (zjb (eV 1)) (zfv 3 (eV 1) alB) (zl0 3 (eV 1) alB) _ _=_;exact(z64 (show zjb (eV 1) [some (.int κ),some (.lst xs),some (.obj S.length),none] (S++[.lst []])=true from rfl)).trans (zir (ds:=xs) (e_v rfl) lp)
theorem zrb{κ:Int}{xs:List D}{a:Nat}(h0:0<=κ)(h1:κ<8)(ha:S[a]? = some (.lst xs))(hx:Al (j9 κ) xs)(hl:xs.length<=1000)(hS:SB S)(hc:noCS S=true)(ht:S[1]? = some (.tab "_law_sorted" ((("_law_sorted":Str)++".<locals>.")++"<lambda>"))):q9 [.int κ,.obj a] S=some (.lst (q8 (cc κ) (dd κ [] xs)),S):=by
 have al:Al (j9 κ) (dd κ [] xs):=zjo (fun z hz=>by cases hz) hx;have ll:=zfj (κ:=κ) (xs:=xs) (us:=[]);obtain⟨o',lp⟩:=zli (S:=S) h0 h1 ha hx (xs.length+1) 0 [] none (by omega) (z7k _) (fun z hz=>by cases hz) (by simp;omega);rw[z9n]at lp;refine zjf (J:=[.lst (dd κ [] xs)]) hS (jq rfl (zh (zv (zfg a_n (z7k _))) (zh (e:=[some (.int κ),some (.obj a),some (.obj S.length),o']) (S1:=S++[.lst (dd κ [] xs)]) ?_ (zw (ze2 h0 h1 al (zqd List.Pairwise.nil) (by simp at ll;omega) hc ht))))) (xm (k:=0) fun x hx=>ze1 (zce al x hx));show zyf (zjb (eV 1)) (zfv 3 (eV 1) alB) (zl0 3 (eV 1) alB) _ _=_;refine(z7a (show ¬ (zjb (eV 1) [some (.int κ),some (.obj a),some (.obj S.length),none] (S++[.lst []])=true) by simp[zjb,eV])).trans ?_;have ha':(S++[MO.lst []])[a]? = some (.lst xs):=by rw[z7d (z6o.mp ha).1];exact ha
 show zl0 3 (eV 1) alB [some (.int κ),some (.obj a),some (.obj S.length),none] (S++[.lst []])=_;simp only[zl0,e_v (i:=1) (d:=.obj a) (ev:=[some (.int κ),some (.obj a),some (.obj S.length),none]) rfl,Option.bind_some,ha'];exact lp
theorem znq{κ:Int}{xs:List D}:Srt (ltk κ) (q8 (cc κ) (dd κ [] xs)):=zpg (zqd List.Pairwise.nil)
theorem zti{κ:Int}(s:Srt (ltk κ) ts):ts.Pairwise fun x y=>cc κ x≠cc κ y:=s.imp fun {x y} q e=>by have:=z9r q;rw[e]at this;exact qaj _ this
theorem z07{κ:Int}{as bs:List D}(ta:Al (j9 κ) as)(tb:Al (j9 κ) bs)(sa:Srt (ltk κ) as)(sb:Srt (ltk κ) bs):q8 (cc κ) (dd κ [] (as++bs))=mrg (ltk κ) as bs:=by
 have e1:∀(xs us:List D),dd κ us (xs++bs)=dd κ (dd κ us xs) bs:=fun xs=>by
   induction xs with
   |nil=>intro us;rfl
   | cons x xs ih=>
     intro us;show(if us.filter (fun z=>decide (cc κ z=cc κ x))=[]then dd κ (us++[x]) (xs++bs)else dd κ us (xs++bs))=_;rw[ih,ih];show _=dd κ (if us.filter (fun z=>decide (cc κ z=cc κ x))=[]then dd κ (us++[x]) xs else dd κ us xs) bs;split<;>rfl
 have e2:dd κ [] as=as:=by
   rw[zst (zti sa),List.nil_append];exact qao.mpr fun x _=>by rw[show hs (ltk κ) [] x=false from hs_no.mpr fun y hy=>by cases hy];rfl
 have sw:=z4h (T:=j9 κ) κ;obtain⟨s1,m1,_⟩:=zhj sw ta tb sa sb;refine zyg sw (zce (zjo (fun z hz=>by cases hz) fun z hz=>(z62.mp hz).elim (ta z) (tb z))) (zt1 sw ta tb sa sb) znq s1 fun x=>?_;rw[(jo _).mem_iff,e1,e2,zst (zti sb),m1,z62,z83];simp
theorem zze{z:Str}(h:z.length<=8):(yn z none (some 1)).length<=1:=by
 have hi:∀n:Nat,n<=8->(Builtin.Str.strSliceIndices none (some 1) 1 n).length<=1:=fun n hn=>by
   have:n=0\/n=1\/n=2\/n=3\/n=4\/n=5\/n=6\/n=7\/n=8:=by omega
   rcases this with rfl | rfl | rfl | rfl | rfl | rfl | rfl | rfl | rfl<;>decide +kernel
 unfold yn;split
 · rename_i e;have:=hi z.length h;rw[qap.mp e]at this;exact this
 · refine z67 ?_ (hi z.length h);show(List.filterMap _ _).toArray.size<=_;rw[z6v];exact qb0 _ _
theorem zw3{κ:Int}(h0:0<=κ)(h1:κ<8)(tx:j9 κ x):∃y,j9 κ y/\∀S,xk [.int κ,x] S=some (y,S):=by
 have hz:sizeLine=16777216:=z7z;have t:∀(c:Int) S,bE (e2 j7 (eV 0) (eK (.int c))) [some (.int κ),some x] S=some (decide (κ=c),S):=fun c S=>qj (e_2 (e_v rfl) e_k (zwv _ _));by_cases q3:κ=3
 · subst q3;obtain⟨i,rfl⟩:=(show Ti x from tx)
   exact⟨_,⟨_,rfl⟩,fun S=>jq rfl (qi (z8 (t 3 S) (zw (e_2 (e_2 (e_2 (e_v rfl) e_k (zmo (by decide))) e_k (zhi (by decide))) (e_2 (e_2 (e_v rfl) e_k (add_int _ _)) e_k (y8 (by decide))) (add_int _ _)))))⟩
 by_cases q4:κ=4
 · subst q4;obtain⟨i,rfl⟩:=(show Ti x from tx)
   exact⟨_,⟨_,rfl⟩,fun S=>jq rfl (zh (zo (t 3 S)) (qi (z8 (t 4 S) (zw (e_2 e_k (e_v rfl) (sub_int _ _))))))⟩
 by_cases q7:κ=7
 · subst q7;obtain⟨z,rfl,hl⟩:=(show Tw x from tx)
   have h2:=zze hl;have e2':(Str.ofString "zz").length=2:=by rw[ofString_length];rfl
   refine⟨.str (yn z none (some 1)++Str.ofString "zz"),⟨_,rfl,by rw[Mt.str_len];omega⟩,fun S=>?_⟩;have sl:zwz (eV 1) pN (pE (eK (.int 1))) [some (.int 7),some (.str z)] S=some (.str (yn z none (some 1)),S):=by
     have h3:(yn z none (some 1)).length<=sizeLine:=by omega
     simp[zwz,eV,pN,pE,eK,zvv,h3]
   have ad:qh (.str (yn z none (some 1))) (.str (Str.ofString "zz"))=some (.str (yn z none (some 1)++Str.ofString "zz")):=by show(if(yn z none (some 1)).length+(Str.ofString "zz").length<=sizeLine then some (D.str (yn z none (some 1)++Str.ofString "zz"))else none)=_;rw[z64 (by omega)]
   exact jq rfl (zh (zo (t 3 S)) (zh (zo (t 4 S)) (qi (z8 (t 7 S) (zw (e_2 sl e_k ad))))))
 · exact⟨x,tx,fun S=>jq rfl (zh (zo ((t 3 S).trans (by rw[z60 q3]))) (zh (zo ((t 4 S).trans (by rw[z60 q4]))) (zh (zo ((t 7 S).trans (by rw[z60 q7]))) (zw (e_v rfl)))))⟩
def tS:MO:=.tab "_law_sorted" ((("_law_sorted":Str)++".<locals>.")++"<lambda>")
def tT:MO:=.tab "_law_told" ((("_law_told":Str)++".<locals>.")++"<lambda>")
def tL:MO:=.tab "law" ((("law":Str)++".<locals>.")++"<lambda>")
structure Pre where
 sz:List D
 sm:List D
def Zn(p:Pre)(k:Nat)(n:Int)(R:Sto):Sto:=tT::tS::tL::.lst p.sz::.lst p.sm::wd (y6 k) n::R
abbrev Z(p:Pre)(k:Nat)(w:List D)(R:Sto):Sto:=Zn p k (0+(w.length:Int)) R
theorem z49{p:Pre}{R:Sto}{new:List D}{T:Sto}(w:Wt k 5 (Zn p k n R) n new T):T=Zn p k (n+new.length) R:=by
 apply List.ext_getElem?;intro q
 match q with
 |0=>rw[w.ne 0 (by omega)];rfl
 |1=>rw[w.ne 1 (by omega)];rfl
 |2=>rw[w.ne 2 (by omega)];rfl
 |3=>rw[w.ne 3 (by omega)];rfl
 |4=>rw[w.ne 4 (by omega)];rfl
 |5=>exact w.at_
 |q+6=>rw[w.ne (q+6) (by omega)];rfl
theorem zxb{p:Pre}{R:Sto}{w new:List D}{T:Sto}(q:Wt k 5 (Z p k w R) (0+(w.length:Int)) new T):T=Z p k (w++new) R:=by rw[z49 q];show Zn p k _ R=Zn p k _ R;rw[z6k];congr 1;omega
structure Rk (p:Pre) (R:Sto):Prop where
 psz:bndL 0 p.sz=true/\noCL p.sz=true
 psm:bndL 0 p.sm=true/\noCL p.sm=true
 no:R.all zij=true
 bd:∀m∈R,zm2 (R.length+6) m=true
theorem zvz:zij (wd (y6 k) n)=true:=by rcases Kd.eq (k:=k)with h | h<;>subst h<;>rfl
theorem Rk.noCS{p:Pre}{R:Sto}(q:Rk p R):noCS (Zn p k n R)=true:=by show(zij tT&&(zij tS&&(zij tL&&(noCL p.sz&&(noCL p.sm&&(zij (wd (y6 k) n)&&R.all zij))))))=true;rw[q.no,zvz,q.psz.2,q.psm.2];rfl
mutual
theorem zuj{m:Nat}:∀{d:D},bnd 0 d=true->bnd m d=true
 | .non,h=>h
 | .bl _,h=>h
 | .int _,h=>h
 | .str _,h=>h
 | .fn _,h=>h
 | .ty _,h=>h
 | .tup ds,h=>bndL_up (ds:=ds) h
 | .lst ds,h=>bndL_up (ds:=ds) h
 | .obj i,h=>by unfold bnd at h;simp at h
 | .lam _,h=>h
 | .clo _ vs,h=>by unfold bnd at h ⊢;exact bndL_up (ds:=vs) h
theorem bndL_up{m:Nat}:∀{ds:List D},bndL 0 ds=true->bndL m ds=true
 | [],_=>rfl
 | d::ds,h=>by unfold bndL at h ⊢;rw[z8e]at h ⊢;exact⟨zuj h.1,bndL_up h.2⟩
end
theorem Rk.sb{p:Pre}{R:Sto}(q:Rk p R):SB (Zn p k n R):=fun m hm=>by
 show zm2 (R.length+6) m=true;rcases z6n.mp hm with rfl | hm
 · rfl
 rcases z6n.mp hm with rfl | hm
 · rfl
 rcases z6n.mp hm with rfl | hm
 · rfl
 rcases z6n.mp hm with rfl | hm
 · exact bndL_up q.psz.1
 rcases z6n.mp hm with rfl | hm
 · exact bndL_up q.psm.1
 rcases z6n.mp hm with rfl | hm
 · exact zxo (k:=k) _ _
 exact q.bd m hm
def U(w:List D)(v:D):Prop:=∃j:Nat,w[j]? = some v/\num v=0+(j:Int)
theorem U.app{w new:List D}{v:D}(h:U w v):U (w++new) v:=by obtain⟨j,h1,h2⟩:=h;exact⟨j,by rw[z7d (z6o.mp h1).1];exact h1,h2⟩
theorem U.all{w new:List D}(h:All (Ac (U w) (0+(w.length:Int)) new) d):All (U (w++new)) d:=h.mono fun v hv=>by
 rcases hv with hv | ⟨j,h1,h2⟩
 · exact hv.app
 · exact⟨w.length+j,by rw[z6y (z63 _ _),z8u];exact h1,by rw[h2];omega⟩
theorem zni{s e:Nat}(hs:s<=e)(he:e<=ts.length):turn s e (turn s e ts)=ts:=by
 unfold turn;have l1:(ts.take s).length=s:=by rw[z7e];omega
 have l2:(((ts.take e).drop s).reverse).length=e-s:=by rw[z78,z7f,z7e];omega
 have t1:(ts.take s++((ts.take e).drop s).reverse++ts.drop e).take s=ts.take s:=by rw[z61,z8m (by omega),z7x (by omega)]
 have t2:(ts.take s++((ts.take e).drop s).reverse++ts.drop e).take e=ts.take s++((ts.take e).drop s).reverse:=by rw[z8m (by rw[z6k];omega),z7x (by rw[z6k];omega)]
 have t3:(ts.take s++((ts.take e).drop s).reverse++ts.drop e).drop e=ts.drop e:=by rw[z8l (by rw[z6k];omega),z8i (by rw[z6k];omega),List.nil_append]
 rw[t1,t2,t3,z8l (by omega),z8i (by omega),List.nil_append,z89];have:ts.take s++(ts.take e).drop s=ts.take e:=by have h:=z76 s (ts.take e);rw[qcb,z9t hs]at h;exact h
 rw[this,z76]
theorem ztm{p:Pre}{R:Sto}{w0:List D}(ns:List Int)(hn:ns.length<=63)(ht:∀x∈ts,Thing k x)(hl:ts.length<=1000){f:Int}(f0:0<=f)(f1:f<1000):∃d h new,Mk k d ts h/\All (U (w0++new)) d/\kg [.lst (ns.map D.int),.int f,.obj 5,.lst ts] (Z p k w0 R)=some (d,Z p k (w0++new) R):=by
 obtain⟨c,c0,c1,hc⟩:=ki ns hn (q:=f) (by omega) (by omega);obtain⟨w,hw,ew⟩:=zdo c (c:=3) (by decide);have s1:qp 4 (e2 qz (zn zq (aC (eV 0) (aC (eV 1) aN))) (eK (.int 3))) [some (.lst (ns.map D.int)),some (.int f),some (.obj 5),some (.lst ts),none,none,none,none] (Z p k w0 R)=some (.nx [some (.lst (ns.map D.int)),some (.int f),some (.obj 5),some (.lst ts),some (.int w),none,none,none],Z p k w0 R):=zv (e_2 (zj (a_c (e_v rfl) (a_c (e_v rfl) a_n)) (hc _)) e_k ew);have:w=0\/w=1\/w=2:=by omega
 rcases this with rfl | rfl | rfl
 · obtain⟨d,h,new,T1,c,rr⟩:=zbh (k:=k) (i:=5) (n:=0+(w0.length:Int)) (P:=U w0) (S:=Z p k w0 R) rfl ht (by omega);have eT:=zxb rr.wt;have au:=U.all rr.all;subst eT;exact⟨d,h,new,rr.mm,au,jq rfl (zh s1 (qi (z8 (qj (e_2 (e_v rfl) e_k rfl)) (zw (zj (a_c (e_v rfl) (a_c (zv4 (e_v rfl)) a_n)) c)))))⟩
 · obtain⟨d,h,new,T1,c,rr⟩:=zbh (k:=k) (i:=5) (n:=0+(w0.length:Int)) (P:=U w0) (S:=Z p k w0 R) (ts:=ts.reverse) rfl (zn4 ht) (by rw[z78];omega);have eT:=zxb rr.wt;have au:=U.all rr.all;subst eT;obtain⟨d',new',T2,c',rr',_⟩:=zj6 (k:=k) (i:=5) (n:=0+((w0++new).length:Int)) (P:=U (w0++new)) (S:=Z p k (w0++new) R) rr.mm rfl au;have eT:=zxb rr'.wt;have au':=U.all rr'.all;subst eT;have mm:=rr'.mm;rw[z89]at mm;rw[z61]at au' c';exact⟨d',h,new++new',mm,au',jq rfl (zh s1 (zh (zo (qj (e_2 (e_v rfl) e_k rfl))) (qi (z8 (qj (e_2 (e_v rfl) e_k rfl)) (zw (x4 (e_v rfl) (qv (n:=0+(w0.length:Int)) rfl) (zb4 _ _) (a_c (zj (a_c (e_v rfl) (a_c (zhl (e_v rfl)) a_n)) c) a_n) c'))))))⟩
 · obtain⟨c4,_,_,hc4⟩:=ki ns hn (q:=f+1) (by omega) (by omega);obtain⟨c5,_,_,hc5⟩:=ki ns hn (q:=f+2) (by omega) (by omega);obtain⟨s,hs,es⟩:=zo5 c4 ts.length;obtain⟨e,he,ee⟩:=zo5 c5 (ts.length-s);have e1:qz (.int c5) (.int ((ts.length:Int)+1-(s:Int)))=some (.int e):=by rw[show(ts.length:Int)+1-(s:Int)=((ts.length-s:Nat):Int)+1 by omega];exact ee
   have hse:s<=s+e:=by omega
   have hel:s+e<=ts.length:=by omega
   have tt:∀z∈turn s (s+e) ts,Thing k z:=fun z hz=>ht z (by
     unfold turn at hz;rcases z62.mp hz with q | q
     · rcases z62.mp q with q | q
       · exact z7l q
       · exact z7l (z8x (z86.mp q))
     · exact z8x q)
   obtain⟨d,h,new,T1,c,rr⟩:=zbh (k:=k) (i:=5) (n:=0+(w0.length:Int)) (P:=U w0) (S:=Z p k w0 R) (ts:=turn s (s+e) ts) rfl tt (by rw[zfr hse hel];omega);have eT:=zxb rr.wt;have au:=U.all rr.all;subst eT;obtain⟨d',h',new',T2,c',rr'⟩:=zes (k:=k) (i:=5) (n:=0+((w0++new).length:Int)) (P:=U (w0++new)) (S:=Z p k (w0++new) R) (s:=s) (e:=s+e) rfl rr.mm (by rw[zfr hse hel];omega) hse (by rw[zfr hse hel];exact hel) au;have eT:=zxb rr'.wt;have au':=U.all rr'.all;subst eT;have mm:=rr'.mm;rw[zni hse hel]at mm;rw[z61]at au' c';refine⟨d',h',new++new',mm,au',jq rfl (zh s1 (zh (zo (qj (e_2 (e_v rfl) e_k rfl))) (zh (zo (qj (e_2 (e_v rfl) e_k rfl))) (zh (zv (e_2 (zj (a_c (e_v rfl) (a_c (e_2 (e_v rfl) e_k (add_int _ _)) a_n)) (hc4 _)) (e_2 (e_a (a_c (e_v rfl) a_n) rfl) e_k (add_int _ _)) es)) (zh (zv (d:=.int ((s+e:Nat):Int)) (e_2 (e_v rfl) (e_2 (zj (a_c (e_v rfl) (a_c (e_2 (e_v rfl) e_k (add_int _ _)) a_n)) (hc5 _)) (e_2 (e_2 (e_a (a_c (e_v rfl) a_n) rfl) e_k (add_int _ _)) (e_v rfl) (sub_int _ _)) e1) (add_int _ _))) (zh (zv (zhl (zxe (e_v rfl) (p_e (e_v rfl)) (p_e (e_v rfl)) (ztj hse hel)))) (zw (zj (a_c (e_v rfl) (a_c (zj (a_c (e_v rfl) (a_c (e_2 (e_2 (zxe (e_v rfl) p_n (p_e (e_v rfl)) (zx6 s)) (e_v rfl) (zg1 (by simp only[z7e,z78,z7f];omega))) (zxe (e_v rfl) (p_e (e_v rfl)) p_n (znw hel)) (zg1 (by simp only[z6k,z7e,z78,z7f];omega))) a_n)) c) (a_c (e_v rfl) (a_c (e_v rfl) a_n)))) c'))))))))⟩
end Pg
namespace Pg
open PySem L2 F Mt
variable {k:Nat} [Kd k] {d d0 d1 d2 l r t x y:D}{ts us as bs acc rt:List D}{h i j g rh h1 h2:Nat}{n:Int}{S S0 S1 R:Sto}{ev:Ev}{T:D->Prop}{lt:D->D->Bool}{f:LT}{vs:List D}
theorem zin{c:B}{b:C}{f:Nat}(h:c ev S=some (false,S)):zap c b (f+1) ev S=some (.nx ev,S):=by unfold zap;rw[h];rfl
theorem znf{c:B}{b:C}{f:Nat}{ev':Ev}{S2:Sto}{o:Out}(h:c ev S=some (true,S))(hb:b ev S=some (.nx ev',S1))(hw:zap c b f ev' S1=some (o,S2)):zap c b (f+1) ev S=some (o,S2):=by unfold zap;rw[h];simp only[Option.bind_some,z8f,hb,hw]
theorem zkd{q:Nat}{v:E}(he:ev[q]? = some (some (.obj S.length)))(hv:v ev (S++[.lst us])=some (x,S++[.lst us]))(hl:us.length<16777216):xg (eV q) v ev (S++[.lst us])=some (.nx ev,S++[.lst (us++[x])]):=by have:=zb9 (q:=q) (j:=S.length) (S:=S++[.lst us]) (us:=us) he (by simp) hv hl;simpa using this
theorem ztz(B:Bf k T lt f vs):∀{l:List D},Al T l->noCL l=true
 | [],_=>rfl
 | x::l,h=>by unfold noCL;rw[B.nc x h.head,ztz B h.tail];rfl
theorem zks(B:Bf k T lt f vs)(hn:noCS S=true)(ha:Al T acc):noCS (S++[.lst acc])=true:=by unfold noCS at *;rw[List.all_append,hn];show(true&&(zij (.lst acc)&&true))=true;rw[show zij (.lst acc)=noCL acc from rfl,ztz B ha];rfl
def wC:B:=(zm6 (bE (e2 zc4 (eV 4) (eA zc7 (aC (eV 1) aN)))) (bE (za8 ft zer zmr (eV 2) (aC (e2s qa (eV 1) (eV 4)) (aC (eV 5) aN)))))
def wD:C:=(z5 (xg (eV 3) (e2s qa (eV 1) (eV 4))) (qp 4 (e2 qh (eV 4) (eK (.int 1)))))
def mB:C:=(z5 (zhb 5000 wC wD) (z5 (xg (eV 3) (eV 5)) (sIf (zm6 (bE (e2 zc4 (eV 4) (eA zc7 (aC (eV 1) aN)))) (zbq (bE (za8 ft zer zmr (eV 2) (aC (eV 5) (aC (e2s qa (eV 1) (eV 4)) aN)))))) (qp 4 (e2 qh (eV 4) (eK (.int 1)))) je)))
def mE(S:Sto)(a0:D)(bs:List D)(f:LT)(vs:List D)(p:Nat)(o:Option D):Ev:=[some a0,some (.lst bs),some (.clo f vs),some (.obj S.length),some (.int p),o]
theorem lt_len{p:Nat}{a0:D}{o:Option D}{S':Sto}:bE (e2 zc4 (eV 4) (eA zc7 (aC (eV 1) aN))) (mE S a0 bs f vs p o) S'=some (decide (p<bs.length),S'):=by refine(qj (e_2 (e_v rfl) (e_a (a_c (e_v rfl) a_n) rfl) (zxc _ _))).trans ?_;congr 2;rw[z71];omega
theorem z29{p:Nat}{a0:D}{o:Option D}{S':Sto}(hp:p<bs.length):e2s qa (eV 1) (eV 4) (mE S a0 bs f vs p o) S'=some (bs[p],S'):=qw (e_v rfl) (e_v rfl) (zen (z6s hp))
theorem ztc(B:Bf k T lt f vs)(hn:noCS S=true)(a0:D){a:D}(ta:T a)(tb:Al T bs):∀(k p:Nat) (acc:List D),bs.length-p<k->p<=bs.length->Al T acc->acc.length+(bs.length-p)<16000000 ->
   zap wC wD k (mE S a0 bs f vs p (some a)) (S++[.lst acc])=some (.nx (mE S a0 bs f vs (p+((bs.drop p).takeWhile (lt · a)).length) (some a)),S++[.lst (acc++(bs.drop p).takeWhile (lt · a))])/\p+((bs.drop p).takeWhile (lt · a)).length<=bs.length/\bs.drop (p+((bs.drop p).takeWhile (lt · a)).length)=(bs.drop p).dropWhile (lt · a)
 |0,p,acc,h,_,_,_=>absurd h (z9u _)
 | k+1,p,acc,h,hp,al,hl=>by
   have nn:=zks B hn al;by_cases q:p<bs.length
   · have tp:=tb _ (z87 q);have e0:bs.drop p=bs[p]::bs.drop (p+1):=z70 q;have c1:wC (mE S a0 bs f vs p (some a)) (S++[.lst acc])=some (lt bs[p] a,S++[.lst acc]):=zem (lt_len.trans (by rw[z68 q])) (qj (bef B nn rfl (z29 q) (e_v rfl) tp ta));cases g:lt bs[p] a with
     | true=>
       rw[g]at c1;obtain⟨w1,w2,w3⟩:=ztc B hn a0 ta tb k (p+1) (acc++[bs[p]]) (by omega) q (fun z hz=>(z62.mp hz).elim (al z) fun e=>by rw[z6q.mp e];exact tp) (by simp;omega);have e1:(bs.drop p).takeWhile (lt · a)=bs[p]::(bs.drop (p+1)).takeWhile (lt · a):=by rw[e0,qbi (p:=(lt · a)) g]
       have e2:(bs.drop p).dropWhile (lt · a)=(bs.drop (p+1)).dropWhile (lt · a):=by rw[e0,qbk (p:=(lt · a)) g]
       rw[e1,e2,List.length_cons,show p+(((bs.drop (p+1)).takeWhile (lt · a)).length+1)=p+1+((bs.drop (p+1)).takeWhile (lt · a)).length by omega];rw[z61,List.singleton_append]at w1;refine⟨znf c1 ?_ w1,w2,w3⟩;exact zh (zkd rfl (z29 q) (by omega)) (zv (e_2 (e_v rfl) e_k (z46 p)))
     | false=>
       rw[g]at c1;have e1:(bs.drop p).takeWhile (lt · a)=[]:=by rw[e0,qbj (p:=(lt · a)) (by rw[g];simp)]
       have e2:(bs.drop p).dropWhile (lt · a)=bs.drop p:=by rw[e0,qbl (p:=(lt · a)) (by rw[g];simp)]
       rw[e1,e2,z7h];exact⟨zin c1,hp,rfl⟩
   · have e0:bs.drop p=[]:=List.drop_eq_nil_iff.mpr (by omega);rw[e0];have c1:wC (mE S a0 bs f vs p (some a)) (S++[.lst acc])=some (false,S++[.lst acc]):=zln (lt_len.trans (by rw[z60 q]));show zap wC wD (k+1) (mE S a0 bs f vs (p) (some a)) (S++[.lst acc])=some (.nx (mE S a0 bs f vs (p+0) (some a)),S++[.lst (acc++[])])/\p+0<=bs.length/\bs.drop (p+0)=[]
     rw[z7h];exact⟨zin c1,hp,e0⟩
theorem zkv(B:Bf k T lt f vs)(hn:noCS S=true)(a0:D)(tb:Al T bs):∀(as:List D),Al T as->∀(p:Nat) (acc:List D) (o:Option D),p<=bs.length->Al T acc->acc.length+as.length+(bs.length-p)<1000000->bs.length<4000 ->
   ∃p' acc' o',za0 5 mB as (mE S a0 bs f vs p o) (S++[.lst acc])=some (.nx (mE S a0 bs f vs p' o'),S++[.lst acc'])/\p'<=bs.length/\acc'++bs.drop p'=acc++mrg lt as (bs.drop p)/\Al T acc'/\acc'.length+(bs.length-p')<=acc.length+as.length+(bs.length-p)
 | [],_,p,acc,o,hp,al,hl,hb=>⟨p,acc,o,rfl,hp,rfl,al,by simp⟩
 | a::as,ta,p,acc,o,hp,al,hl,hb=>by
   rw[List.length_cons]at hl;obtain⟨w1,w2,w3⟩:=ztc (S:=S) B hn a0 ta.head tb 5000 p acc (by omega) hp al (by omega);have tw:Al T ((bs.drop p).takeWhile (lt · a)):=fun z hz=>tb z (z8x ((List.takeWhile_sublist _).subset hz));have lw:((bs.drop p).takeWhile (lt · a)).length<=bs.length-p:=by omega
   generalize e1:(bs.drop p).takeWhile (lt · a)=tk at w1 w2 w3 tw lw;have al2:Al T (acc++tk++[a]):=fun z hz=>by
     rcases z62.mp hz with q | q
     · exact(z62.mp q).elim (al z) (tw z)
     · rw[z6q.mp q];exact ta.head
   have nn:=zks B hn al2;have s2:xg (eV 3) (eV 5) (mE S a0 bs f vs (p+tk.length) (some a)) (S++[.lst (acc++tk)])=some (.nx (mE S a0 bs f vs (p+tk.length) (some a)),S++[.lst (acc++tk++[a])]):=zkd rfl (e_v rfl) (by rw[z6k];omega);have third:∃p2,p2<=bs.length/\p+tk.length<=p2/\bs.drop p2=nxt lt a ((bs.drop p).dropWhile (lt · a))/\sIf (zm6 (bE (e2 zc4 (eV 4) (eA zc7 (aC (eV 1) aN)))) (zbq (bE (za8 ft zer zmr (eV 2) (aC (eV 5) (aC (e2s qa (eV 1) (eV 4)) aN)))))) (qp 4 (e2 qh (eV 4) (eK (.int 1)))) je (mE S a0 bs f vs (p+tk.length) (some a)) (S++[.lst (acc++tk++[a])])=some (.nx (mE S a0 bs f vs p2 (some a)),S++[.lst (acc++tk++[a])]):=by
     rw[<-w3];by_cases q:p+tk.length<bs.length
     · have e0:bs.drop (p+tk.length)=bs[p+tk.length]::bs.drop (p+tk.length+1):=z70 q;have c1:=bef (ev:=mE S a0 bs f vs (p+tk.length) (some a)) (e1:=eV 5) (e2:=e2s qa (eV 1) (eV 4)) (q:=2) B nn rfl (e_v rfl) (z29 q) ta.head (tb _ (z87 q));rw[e0,zc5];cases g:lt a bs[p+tk.length] with
       | true=>
         rw[g]at c1;exact⟨p+tk.length,w2,z6l _,by rw[z64 rfl,<-e0],zo (zem (lt_len.trans (by rw[z68 q])) (zq2 (qj c1)))⟩
       | false=>
         rw[g]at c1;exact⟨p+tk.length+1,q,by omega,by rw[z7a (by simp)],z8 (zem (lt_len.trans (by rw[z68 q])) (z43 (qj c1))) (zv (e_2 (e_v rfl) e_k (z46 _)))⟩
     · have e0:bs.drop (p+tk.length)=[]:=List.drop_eq_nil_iff.mpr (by omega);rw[e0,zow];exact⟨p+tk.length,w2,z6l _,e0,zo (zln (lt_len.trans (by rw[z60 q])))⟩
   obtain⟨p2,h1,h2,h3,c3⟩:=third;obtain⟨p',acc',o',lp,i1,i2,i3,i4⟩:=zkv B hn a0 tb as ta.tail p2 (acc++tk++[a]) (some a) h1 al2 (by simp only[z6k,List.length_cons,List.length_nil];omega) hb;refine⟨p',acc',o',zbx (zh w1 (zh s2 c3)) lp,i1,?_,i3,by simp only[z6k,List.length_cons,List.length_nil]at i4 ⊢;omega⟩;rw[i2,h3];show acc++tk++[a]++_=acc++((bs.drop p).takeWhile (lt · a)++a::mrg lt as (nxt lt a ((bs.drop p).dropWhile (lt · a))))
   rw[e1];simp
theorem zo6(B:Bf k T lt f vs)(hn:noCS S=true)(hS:SB S)(ta:Al T as)(tb:Al T bs)(la:as.length<=2000)(lb:bs.length<=2000)(tm:Al T (mrg lt as bs)):zge [.lst as,.lst bs,.clo f vs] S=some (.lst (mrg lt as bs),S):=by
 obtain⟨p',acc',o',lp,i1,i2,i3,i4⟩:=zkv (S:=S) B hn (.lst as) tb as ta 0 [] none (z7k _) (fun z hz=>by cases hz) (by simp;omega) (by omega);rw[z9n,List.nil_append]at i2;refine zjf (J:=[.lst acc']) hS (jq rfl (zh (zv (zfg a_n (z7k _))) (zh (zv e_k) (zh (zir (ds:=as) (e_v rfl) lp) (zw (qw (e_v rfl) (zxe (e_v rfl) (p_e (e_v rfl)) p_n (znw i1)) ?_)))))) (xm fun x hx=>B.th x (tm x hx));rw[<-i2];have hz:sizeLine=16777216:=z7z;have hl:acc'.length+(bs.drop p').length<=sizeLine:=by rw[hz,z7f];simp at i4;omega
 simp only[zhh,z6y (z6l _),z9v,List.getElem?_cons_zero,z64 hl]
theorem zi1{p:Pre}{w0:List D}(B:Bf k T lt f vs)(al:Al T ts)(sr:Srt lt ts)(hl:ts.length<=2000):∃d h new,x3 [.obj 5,.lst ts] (Z p k w0 R)=some (d,Z p k (w0++new) R)/\Ste k T lt d ts h/\All (U (w0++new)) d:=by obtain⟨d,h,new,T1,c,rr⟩:=zbh (k:=k) (i:=5) (n:=0+(w0.length:Int)) (P:=U w0) (S:=Z p k w0 R) rfl (fun x hx=>B.th x (al x hx)) hl;have eT:=zxb rr.wt;subst eT;exact⟨d,h,new,c,⟨rr.mm,al,sr⟩,U.all rr.all⟩
theorem z45{p:D->Bool}(h:Al T ts):Al T (ts.filter p):=fun x hx=>h x (z83.mp hx).1
theorem z4i{p:D->Bool}(h:Srt lt ts):Srt lt (ts.filter p):=List.Pairwise.filter _ h
theorem zqk{p:Pre}{w0:List D}(B:Bf k T lt f vs)(q:Rk p R)(s1:Ste k T lt d1 as h1)(s2:Ste k T lt d2 bs h2)(l1:as.length<=2000)(l2:bs.length<=2000):∃d h new,zgg [.obj 5,d1,d2,.clo f vs] (Z p k w0 R)=some (d,Z p k (w0++new) R)/\Ste k T lt d (as.filter (hs lt bs)) h/\All (U (w0++new)) d:=by obtain⟨d,h,n',c,s⟩:=zi1 (p:=p) (w0:=w0) (R:=R) B (z45 (p:=hs lt bs) s1.al) (z4i s1.sr) (z67 (z8q ..) l1);exact⟨d,h,n',jq rfl (zw (zj (a_c (e_v rfl) (a_c (zh0 (zj (a_c (e_v rfl) a_n) (jy s1.mm l1 q.sb)) fun x hx=>qj (zj (a_c (e_v rfl) (a_c (e_v rfl) (a_c (e_v rfl) a_n))) (zt5 B q.noCS (s1.al x hx) s2 l2))) a_n)) c)),s⟩
theorem zv5{p:Pre}{w0:List D}(B:Bf k T lt f vs)(q:Rk p R)(s1:Ste k T lt d1 as h1)(s2:Ste k T lt d2 bs h2)(l1:as.length<=2000)(l2:bs.length<=2000):∃d h new,zps [.obj 5,d1,d2,.clo f vs] (Z p k w0 R)=some (d,Z p k (w0++new) R)/\Ste k T lt d (as.filter fun x=>!hs lt bs x) h/\All (U (w0++new)) d:=by obtain⟨d,h,n',c,s⟩:=zi1 (p:=p) (w0:=w0) (R:=R) B (z45 (p:=fun x=>!hs lt bs x) s1.al) (z4i s1.sr) (z67 (z8q ..) l1);exact⟨d,h,n',jq rfl (zw (zj (a_c (e_v rfl) (a_c (zh0 (zj (a_c (e_v rfl) a_n) (jy s1.mm l1 q.sb)) fun x hx=>z1k (qj (zj (a_c (e_v rfl) (a_c (e_v rfl) (a_c (e_v rfl) a_n))) (zt5 B q.noCS (s1.al x hx) s2 l2)))) a_n)) c)),s⟩
theorem zqa{p:Pre}{w0:List D}(B:Bf k T lt f vs)(q:Rk p R)(s1:Ste k T lt d1 as h1)(s2:Ste k T lt d2 bs h2)(l:as.length+bs.length<=2000):∃d h new,zgf [.obj 5,d1,d2,.clo f vs] (Z p k w0 R)=some (d,Z p k (w0++new) R)/\Ste k T lt d (mrg lt as bs) h/\All (U (w0++new)) d:=by
 have tm:=zt1 B.sw s1.al s2.al s1.sr s2.sr;obtain⟨sm,_,lm⟩:=zhj B.sw s1.al s2.al s1.sr s2.sr;have ll:(mrg lt as bs).length<=2000:=by rw[lm];have:=z8q (fun x=>!hs lt as x) bs;omega
 obtain⟨d,h,n',c,s⟩:=zi1 (p:=p) (w0:=w0) (R:=R) B tm sm ll;exact⟨d,h,n',jq rfl (zw (zj (a_c (e_v rfl) (a_c (zj (a_c (zj (a_c (e_v rfl) a_n) (jy s1.mm (by omega) q.sb)) (a_c (zj (a_c (e_v rfl) a_n) (jy s2.mm (by omega) q.sb)) (a_c (e_v rfl) a_n))) (zo6 B q.noCS q.sb s1.al s2.al (by omega) (by omega) tm)) a_n)) c)),s⟩
end Pg
namespace Pg
open PySem L2 F Mt
variable {k:Nat} [Kd k] {d l r t x y:D}{ts lt rt:List D}{h lh rh i:Nat}{n:Int}{S S0 S1:Sto}{ev e:Ev}{P Q:D->Prop}{a b new:List D}
theorem zct{m:Nat}:∀{ds:List D},(∀x∈ds,bnd m x=true)->bndL m ds=true
 | [],_=>rfl
 | d::ds,hb=>by unfold bndL;rw[hb d (z6w ..),zct fun x hx=>hb x (z6r _ hx)];rfl
theorem zqq(hx:∀x∈ts,Thing k x):bnd 0 (yc k ts)=true:=by
 by_cases hk:k=0
 · subst hk;rw[zax];rfl
 · cases ts with
   |nil=>rfl
   | cons t ts=>
     have q:=zuz (zdi hk (by simp) hx);generalize yc k (t::ts)=z at q ⊢;cases q with
     |non=>rfl
     |int i=>rfl
     |str z=>rfl
     |pair a b=>rfl
theorem Mk.bnd0(m:Mk k d ts h):bnd 0 d=true:=by
 induction m with
 |non=>rfl
 | @node num a l t r lt rt lh rh ml mr ht h1 h2 i1 i2=>
   have hth:∀x∈ord a (lt++t::rt),Thing k x:=(Mk.node (num:=num) (a:=a) ml mr ht h1 h2).things;unfold mkD;unfold bnd;simp only[bndL,i1,i2,zia ht,zqq hth,zqq (zn4 hth),qb2];simp[bnd]
inductive Nt (P:D->Prop):D->Nat->Prop where
 |non:Nt P .non 0
 |node {m:Int}{a:Bool}{l t r:D}{sz ht:Int}{to ba:D}{x y:Nat}:P (mkD m a l t r sz ht to ba)->bnd 0 (mkD m a l t r sz ht to ba)=true->Nt P l x->Nt P r y->Nt P (mkD m a l t r sz ht to ba) (x+y+1)
theorem Mk.nt(m:Mk k d ts h)(al:All P d):Nt P d ts.length:=by
 induction m with
 |non=>exact .non
 | @node num a l t r lt rt lh rh ml mr ht h1 h2 i1 i2=>
   have hp:P (mkD num a l t r (lt.length+1+rt.length:Nat) (max lh rh+1:Nat) (yc k (ord a (lt++t::rt))) (yc k (ord a (lt++t::rt)).reverse)):=by
     generalize hd:mkD num a l t r (lt.length+1+rt.length:Nat) (max lh rh+1:Nat) (yc k (ord a (lt++t::rt))) (yc k (ord a (lt++t::rt)).reverse)=d at al;cases al with
     |non=>cases hd
     |node p _ _=>exact p
   have:=Nt.node hp (Mk.bnd0 (.node (num:=num) (a:=a) ml mr ht h1 h2)) (i1 al.inv.1) (i2 al.inv.2);rw[xx,show(lt++t::rt).length=lt.length+rt.length+1 by simp;omega];exact this
inductive Nts (P:D->Prop):List D->Nat->Prop where
 |nil:Nts P [] 0
 |snoc {td:List D}{x:D}{c a:Nat}:Nts P td c->Nt P x a->x≠.non->Nts P (td++[x]) (c+a)
def nn:D->Bool
 | .non=>false
 |_=>true
theorem Nt.pos{c:Nat}(m:Nt P d c)(h:d≠.non):0<c:=by
 cases m with
 |non=>exact absurd rfl h
 |node _ _ _ _=>omega
theorem Nts.len{td:List D}{c:Nat}(m:Nts P td c):td.length<=c:=by
 induction m with
 |nil=>exact z6l _
 |snoc _ x h ih=>have:=x.pos h;simp;omega
theorem Nts.bnd{td:List D}{c:Nat}(m:Nts P td c):∀x∈td,F.bnd 0 x=true:=by
 induction m with
 |nil=>intro x hx;cases hx
 | snoc _ m h ih=>
   intro x hx;rcases z62.mp hx with hx | hx
   · exact ih x hx
   · rw[z6q.mp hx];cases m with
     |non=>rfl
     |node _ b _ _=>exact b
theorem z4s{x:D}{c:Nat}(m:Nt P x c)(h:x≠.non):nn x=true:=by
 cases m with
 |non=>exact absurd rfl h
 |node _ _ _ _=>rfl
theorem Nts.fil{td:List D}{c:Nat}(m:Nts P td c):∀{ds:List D}{cs:Nat},(∃f:List Nat,f.length=ds.length/\f.sum=cs/\∀(i:Nat) (x:D) (q:Nat),ds[i]? = some x->f[i]? = some q->Nt P x q)->Nts P (td++ds.filter nn) (c+cs)
 | ds,cs,hh=>by
   induction ds generalizing td c cs with
   | nil=>
     obtain⟨f,h1,h2,_⟩:=hh;have:f=[]:=List.eq_nil_of_length_eq_zero h1;subst this;subst h2;simpa using m
   | cons x ds ih=>
     obtain⟨f,h1,h2,h3⟩:=hh;cases f with
     |nil=>cases h1
     | cons q f=>
       have hx:=h3 0 x q rfl rfl;have hr:∃g:List Nat,g.length=ds.length/\g.sum=f.sum/\∀(i:Nat) (x:D) (q:Nat),ds[i]? = some x->g[i]? = some q->Nt P x q:=⟨f,by simpa using h1,rfl,fun i y p e1 e2=>h3 (i+1) y p e1 e2⟩
       simp only[List.sum_cons]at h2;by_cases e:x=.non
       · subst e;cases hx;have:=ih m _ hr;rw[z8v (by simp[nn]),<-h2,z99];exact this
       · have:=ih (.snoc m hx e) _ hr;rw[z90 (by rw[z4s hx e]),<-h2,<-z9b];simpa using this
theorem z2z{c:Nat}(hx:Nt P x c):bE (e2 ju (eV 0) (eK .non)) [some x] S=some (nn x,S):=by
 cases hx with
 |non=>exact qj (e_2 (e_v (i:=0) rfl) (e_k (d:=.non)) zsa)
 |node _ _ _ _=>exact qj (b:=true) (e_2 (e_v (i:=0) rfl) (e_k (d:=.non)) (zr9 _))
def Ch(v c:D):Prop:=∃(m:Int) (a:Bool) (l t r:D) (sz ht:Int) (to ba:D),v=mkD m a l t r sz ht to ba/\(c=l\/c=r)
structure Wk (P:D->Prop) (rs:List D) (kvs:List (Int×D)) (td:List D):Prop where
 ent:∀p∈kvs,P p.2/\p.1=num p.2/\bnd 0 p.2=true
 nd:(kvs.map (·.1)).Nodup
 cl:∀p∈kvs,∀c,Ch p.2 c->c=.non\/c∈td\/zcv kvs (num c)=true
 rt:∀x∈rs,x=.non\/x∈td\/zcv kvs (num x)=true
theorem zwd{kvs:List (Int×D)}{q q':Int}{v:D}(h:zcv kvs q=true):zcv (kvs++[(q',v)]) q=true:=by unfold zcv at h ⊢;rw[List.any_append,h,Bool.true_or]
theorem zwc{kvs:List (Int×D)}{q:Int}{v:D}:zcv (kvs++[(q,v)]) q=true:=by unfold zcv;rw[List.any_append];simp
theorem Wk.skip{rs:List D}{kvs:List (Int×D)}{td:List D}(w:Wk P rs kvs (td++[x]))(h:zcv kvs (num x)=true):Wk P rs kvs td:=by
 have f:∀c:D,c∈td++[x]->c∈td\/zcv kvs (num c)=true:=fun c hc=>(z62.mp hc).imp id fun z=>by rw[z6q.mp z];exact h
 exact⟨w.ent,w.nd,fun p hp c hc=>(w.cl p hp c hc).imp id fun z=>z.elim (f c) .inr,fun y hy=>(w.rt y hy).imp id fun z=>z.elim (f y) .inr⟩
theorem zv0{m m':Int}{a a':Bool}{l l' t t' r r':D}{sz sz' ht ht':Int}{to to' ba ba':D}(e:mkD m a l t r sz ht to ba=mkD m' a' l' t' r' sz' ht' to' ba'):l=l'/\r=r':=by unfold mkD at e;injection e with e;simp only[z84,and_true]at e;exact⟨e.2.2.1,e.2.2.2.2.1⟩
theorem Wk.take{rs:List D}{kvs:List (Int×D)}{td:List D}{m:Int}{a:Bool}{l t r:D}{sz ht:Int}{to ba:D}(w:Wk P rs kvs (td++[mkD m a l t r sz ht to ba]))(hp:P (mkD m a l t r sz ht to ba))(hb:bnd 0 (mkD m a l t r sz ht to ba)=true)
   (h:zcv kvs m=false) (hl:l=.non\/nn l=true) (hr:r=.non\/nn r=true):Wk P rs (kvs++[(m,mkD m a l t r sz ht to ba)]) (td++[l,r].filter nn):=by
 have hn:num (mkD m a l t r sz ht to ba)=m:=rfl;have f:∀c:D,c∈td++[mkD m a l t r sz ht to ba]\/zcv kvs (num c)=true->c∈td++[l,r].filter nn\/zcv (kvs++[(m,mkD m a l t r sz ht to ba)]) (num c)=true:=fun c hc=>by
   rcases hc with hc | hc
   · rcases z62.mp hc with z | z
     · exact .inl (z7y _ z)
     · rw[z6q.mp z];exact .inr zwc
   · exact .inr (zwd hc)
 refine⟨fun p hp'=>?_,?_,fun p hp' c hc=>?_,fun y hy=>(w.rt y hy).imp id (f y)⟩
 · rcases z62.mp hp' with z | z
   · exact w.ent p z
   · rw[z6q.mp z];exact⟨hp,rfl,hb⟩
 · rw[qaw,qaf];refine⟨w.nd,by simp,fun u hu v hv=>?_⟩;have hv:v=m:=by simpa using hv
   subst hv;intro e;subst e;obtain⟨p,hp1,rfl⟩:=z9k.mp hu;have:zcv kvs p.1=true:=by unfold zcv;exact List.any_eq_true.mpr ⟨p,hp1,z68 rfl⟩
   rw[this]at h;cases h
 · rcases z62.mp hp' with z | z
   · exact(w.cl p z c hc).imp id (f c)
   · rw[z6q.mp z]at hc;obtain⟨m',a',l',t',r',sz',ht',to',ba',e,hc⟩:=hc;obtain⟨rfl,rfl⟩:=zv0 e;rcases hc with rfl | rfl
     · rcases hl with hl | hl
       · exact .inl hl
       · exact .inr (.inl (z6x _ (z83.mpr ⟨by simp,hl⟩)))
     · rcases hr with hr | hr
       · exact .inl hr
       · exact .inr (.inl (z6x _ (z83.mpr ⟨by simp,hr⟩)))
def JB(J:Sto):Prop:=∀m∈J,zm2 0 m=true
theorem z44(B J:Sto)(m:MO)(u:Nat):(B++m::J)[B.length+1+u]? = J[u]?:=by rw[z6y (by omega),show B.length+1+u-B.length=u+1 by omega];rfl
theorem z6d(B J:Sto)(m:MO):(B++m::J)[B.length]? = some m:=by rw[z6y (z6l _),z9v];rfl
theorem z2l(B J:Sto)(m m':MO)(u:Nat):(B++m::J).set (B.length+1+u) m'=B++m::J.set u m':=by rw[qa6 _ _ (by omega),show B.length+1+u-B.length=u+1 by omega];rfl
theorem zya(B J:Sto)(m m':MO):(B++m::J).set B.length m'=B++m'::J:=by rw[qa6 _ _ (z6l _),z9v];rfl
theorem z5z{p w:Nat}{td:List D}(h2:ev[p]? = some (some (.obj w)))(hs:S[w]? = some (.lst td))(hb:bndL 0 td=true):bE (e2s zhg (eV p) (zq1 aN)) ev S=some (!td.isEmpty,S):=by
 refine qj (qw (e_v h2) (zsp a_n (z7k _)) ?_);simp only[zhg,hs,hb,show bndL 0 []=true from rfl,and_self,z8f,zi0];cases td with
 |nil=>rfl
 |cons x td=>rfl
theorem z2t{p w:Nat}{td:List D}(h2:ev[p]? = some (some (.obj w)))(hs:S[w]? = some (.lst (td++[x]))):zxf (eV p) ev S=some (x,S.set w (.lst td)):=by simp only[zxf,e_v h2,Option.bind_some,hs];rw[z6k,z6y (by simp)];simp
theorem zoy{p w:Nat}{q:Int}{kvs:List (Int×D)}{f:E}(h1:ev[p]? = some (some (.obj w)))(hs:S[w]? = some (.dct kvs))(hf:f ev S=some (.int q,S)):bE (e2s zbw f (eV p)) ev S=some (!zcv kvs q,S) :=
 qj (qw hf (e_v h1) (by simp only[zbw,hs]))
theorem z04{p w:Nat}{q:Int}{kvs:List (Int×D)}{f g:E}(h1:ev[p]? = some (some (.obj w)))(hs:S[w]? = some (.dct kvs))(hf:f ev S=some (.int q,S))(hg:g ev S=some (x,S))(hn:zcv kvs q=false)(hl:kvs.length<16777216) :
   zhd (eV p) f g ev S=some (.nx ev,S.set w (.dct (kvs++[(q,x)]))):=by
 have hz:sizeLine=16777216:=z7z;simp only[zhd,hg,Option.bind_some,e_v h1,hf,hs,hn,hz,hl,and_self,z8f]
theorem z1n{p w:Nat}{td us:List D}{g:E}(h2:ev[p]? = some (some (.obj w)))(hs:S[w]? = some (.lst td))(hg:g ev S=some (.lst us,S))(hl:td.length+us.length<=16777216):zmn (eV p) g ev S=some (.obj S.length,S++[.lst (td++us)]):=by have hz:sizeLine=16777216:=z7z;simp only[zmn,e_v h2,Option.bind_some,hg,hs,hz,hl,z8f]
theorem JB.set{J:Sto}{u:Nat}{m:MO}(h:JB J)(hm:zm2 0 m=true):JB (J.set u m):=fun z hz=>(List.mem_or_eq_of_mem_set hz).elim (h z) fun e=>e▸hm
theorem JB.add{J:Sto}{m:MO}(h:JB J)(hm:zm2 0 m=true):JB (J++[m]):=fun z hz=>(z62.mp hz).elim (h z) fun e=>(z6q.mp e)▸hm
theorem zu2{c:B}{a b:C}{o:Out}{S2:Sto}(h:c ev S=some (false,S1))(q:b ev S1=some (o,S2)):sIf c a b ev S=some (o,S2):=by simp[sIf,h,q]
theorem zpr:∀{kvs:List (Int×D)}{q:Int},zcv kvs q=true->∃p∈kvs,p.1=q/\zhr kvs q=some p.2
 | [],q,h=>by cases h
 | p::kvs,q,h=>by
   unfold zcv at h;rw[List.any_cons]at h;unfold zhr;by_cases z:p.1=q
   · exact⟨p,z6w ..,z,z64 z⟩
   · rw[z60 z,Bool.false_or]at h;obtain⟨p',h1,h2,h3⟩:=zpr h;exact⟨p',z6r _ h1,h2,by rw[z7a z];exact h3⟩
theorem z0h{rs td:List D}{kvs:List (Int×D)}{m:Int}{ab:Bool}{l t r:D}{sz ht:Int}{to ba:D}(hU:∀v v',P v->P v'->num v=num v'->v=v')(wk:Wk P rs kvs td)(hp:P (mkD m ab l t r sz ht to ba))(hk:zcv kvs m=true):zhr kvs m=some (mkD m ab l t r sz ht to ba):=by obtain⟨p,h1,h2,h3⟩:=zpr hk;obtain⟨p1,p2,_⟩:=wk.ent p h1;rw[h3,hU _ _ p1 hp (by rw[<-p2,h2];rfl)]
theorem z06{w:Nat}{q:Int}{kvs:List (Int×D)}{v:D}(hs:S[w]? = some (.dct kvs))(h:zhr kvs q=some v):zdm S (.obj w) (.int q)=some v:=by simp only[zdm,hs,h]
theorem zty{C:Nat}:∀{fs:List D},(∀(j:Nat) (x:D),fs[j]? = some x->∃c,c<=C/\Nt P x c)->∃(f:List Nat) (cf:Nat),f.length=fs.length/\f.sum=cf/\(∀(i:Nat) (x:D) (q:Nat),fs[i]? = some x->f[i]? = some q->Nt P x q)/\cf<=fs.length*C
 | [],_=>⟨[],0,rfl,rfl,fun i x q e=>(by cases e),z7k _⟩
 | x::fs,hh=>by
   obtain⟨f,cf,h1,h2,h3,h4⟩:=zty (fs:=fs) fun j y e=>hh (j+1) y e;obtain⟨c,hc,hx⟩:=hh 0 x rfl;refine⟨c::f,c+cf,by simp[h1],by simp[h2],fun i y q e1 e2=>?_,?_⟩
   · match i,e1,e2 with
     |0,e1,e2=>cases e1;cases e2;exact hx
     |i+1,e1,e2=>exact h3 i y q e1 e2
   · rw[List.length_cons,Nat.add_mul,Nat.one_mul];omega
theorem z1m(m:Mk k d ts h)(hh:h<=100):All (fun v=>pl 150 v=true) d:=by
 induction m with
 |non=>exact .non
 | @node num a l t r lt rt lh rh ml mr ht h1 h2 i1 i2=>
   exact .node (zah (by omega) (z2u (.node (num:=num) (a:=a) ml mr ht h1 h2))) (i1 (by omega)) (i2 (by omega))
theorem z57(w c:Int):zot (.int w) (.int c)=some (.bl (decide (c<=w))):=rfl
def ix0:E:=e2s qa (eV 4) (eK (.int 0))
def oW:B:=(bOr (zbq (bE (eA zsb (aC ix0 (aC (eK (.ty "int")) aN))))) (bOr (bE (e2 zc4 ix0 (eK (.int 0)))) (bE (e2 zot ix0 (x5 "Wood" "made" kh (eV 0) aN)))))
def oC:E:=(xc [] (zih (zb3 (aC (e2s qa (eV 4) (eK (.int 2))) (aC (e2s qa (eV 4) (eK (.int 4))) aN)))) (bE (e2 ju (eV 0) (eK .non))) (eV 0))
def oB:C:=(z5 (qp 4 (zxf (eV 3))) (z5 (sIf oW (qm (eK (.bl false))) je) (sIf (bE (e2s zbw ix0 (eV 2))) (z5 (zhd (eV 2) ix0 (eV 4)) (qp 3 (zmn (eV 3) oC))) (sIf (bE (e2 zi0 (e2s zdm (eV 2) ix0) (eV 4))) (qm (eK (.bl false))) je))))
def oE(a B u:Nat)(o:Option D):Ev:=[some (.obj 5),some (.obj a),some (.obj B),some (.obj (B+1+u)),o]
theorem z5x{a B u:Nat}{m:Int}{ab:Bool}{l t r:D}{sz ht:Int}{to ba:D}(h5:S[5]? = some (wd (y6 k) n))(h0:0<=m)(h1:m<n):oW (oE a B u (some (mkD m ab l t r sz ht to ba))) S=some (false,S):=by have ix:ix0 (oE a B u (some (mkD m ab l t r sz ht to ba))) S=some (.int m,S):=qw (e_v rfl) e_k rfl;exact zs7 (zq2 (qj (e_a (a_c ix (a_c e_k a_n)) rfl))) (zs7 (qj (e_2 ix e_k ((zxc _ _).trans (by rw[z60 (by omega)])))) (qj (e_2 ix (zzp rfl h5) ((z57 _ _).trans (by rw[z60 (by omega)])))))
theorem z5y{a B u nl nr:Nat}{m:Int}{ab:Bool}{l t r:D}{sz ht:Int}{to ba:D}(hl:Nt P l nl)(hr:Nt P r nr):oC (oE a B u (some (mkD m ab l t r sz ht to ba))) S=some (.lst ([l,r].filter nn),S):=by
 have e1:zb3 (aC (e2s qa (eV 4) (eK (.int 2))) (aC (e2s qa (eV 4) (eK (.int 4))) aN)) (oE a B u (some (mkD m ab l t r sz ht to ba))) S=some (.tup [l,r],S):=zbp (a_c (qw (e_v rfl) e_k rfl) (a_c (qw (e_v rfl) e_k rfl) a_n)) (z7o rfl);unfold oC xc zih;rw[e1];simp only[Option.bind_some,zao];rw[zgp (p:=nn) [l,r] fun y hy=>by
   rcases z6n.mp hy with rfl | hy
   · exact z2z hl
   · rw[z6q.mp hy];exact z2z hr]
 rfl
theorem zdg{rs:List D}(hU:∀v v',P v->P v'->num v=num v'->v=v')(hpl:∀v,P v->pl 150 v=true)(hn:∀v,P v->0<=num v/\num v<n)(A:Nat)(B:Sto)(h5:B[5]? = some (wd (y6 k) n)):∀(f:Nat) {c u:Nat}{td:List D}{kvs:List (Int×D)}{J:Sto} (o3:Option D),Nts P td c->c<f->Wk P rs kvs td->J[u]? = some (.lst td)->JB J->kvs.length+c<=100000 ->
   ∃kvs' J' u' o3',zap (bE (e2s zhg (eV 3) (zq1 aN))) oB f (oE A B.length u o3) (B++.dct kvs::J)=some (.nx (oE A B.length u' o3'),B++.dct kvs'::J')
 |0,_,_,_,_,_,_,_,hf,_,_,_,_=>by omega
 | f+1,c,u,td,kvs,J,o3,ht,hf,wk,hu,jb,hl=>by
   have hs:(B++.dct kvs::J)[B.length+1+u]? = some (.lst td):=(z44 B J _ u).trans hu;have cnd:=z5z (p:=3) (ev:=oE A B.length u o3) (w:=B.length+1+u) rfl hs (zct ht.bnd);have h5':∀{X:Sto},(B++X)[5]? = some (wd (y6 k) n):=fun {X}=>by rw[z7d (z6o.mp h5).1];exact h5
   cases ht with
   |nil=>exact⟨kvs,J,u,o3,zin cnd⟩
   | @snoc td x c a ht hx hnn=>
     have lt:=ht.len;rw[show(!(td++[x]).isEmpty)=true by simp]at cnd;have p1:=z2t (p:=3) (ev:=oE A B.length u o3) (w:=B.length+1+u) rfl hs;rw[z2l]at p1;have jb1:JB (J.set u (.lst td)):=jb.set (zct ht.bnd);have hul:u<J.length:=(z6o.mp hu).1;have hs1:(B++.dct kvs::J.set u (.lst td))[B.length]? = some (.dct kvs):=z6d _ _ _;cases hx with
     |non=>exact absurd rfl hnn
     | @node m ab l t r sz ht' to ba nl nr hp hb hxl hxr=>
       obtain⟨n0,n1⟩:=hn _ hp;have n0:0<=m:=n0;have n1:m<n:=n1;have ix:∀S,ix0 (oE A B.length u (some (mkD m ab l t r sz ht' to ba))) S=some (.int m,S):=fun S=>qw (e_v rfl) e_k rfl;have s1:qp 4 (zxf (eV 3)) (oE A B.length u o3) (B++.dct kvs::J)=some (.nx (oE A B.length u (some (mkD m ab l t r sz ht' to ba))),B++.dct kvs::J.set u (.lst td)):=zv p1;have s2:sIf oW (qm (eK (.bl false))) je (oE A B.length u (some (mkD m ab l t r sz ht' to ba))) (B++.dct kvs::J.set u (.lst td))=some (.nx (oE A B.length u (some (mkD m ab l t r sz ht' to ba))),B++.dct kvs::J.set u (.lst td)):=zo (z5x (k:=k) (n:=n) h5' n0 n1);by_cases hk:zcv kvs m=true
       · have wk':=wk.skip hk;obtain⟨kvs',J',u',o3',e1⟩:=zdg hU hpl hn A B h5 f (td:=td) (J:=J.set u (.lst td)) (u:=u) (some (mkD m ab l t r sz ht' to ba)) ht (by omega) wk' (by rw[z7w hul]) jb1 (by omega);refine⟨kvs',J',u',o3',znf cnd (zh s1 (zh s2 (zu2 ((zoy (p:=2) (w:=B.length) (q:=m) rfl hs1 (ix _)).trans (by rw[hk];rfl)) (zo (qj (e_2 (qw (e_v rfl) (ix _) (z06 hs1 (z0h hU wk hp hk))) (e_v rfl) (zzj (hpl _ hp)))))))) e1⟩
       · have hk:zcv kvs m=false:=z81.mpr hk;have hnl:l=.non\/nn l=true:=by
           cases hxl with
           |non=>exact .inl rfl
           |node _ _ _ _=>exact .inr rfl
         have hnr:r=.non\/nn r=true:=by
           cases hxr with
           |non=>exact .inl rfl
           |node _ _ _ _=>exact .inr rfl
         have wk':=wk.take hp hb hk hnl hnr;have ht2:Nts P (td++[l,r].filter nn) (c+(nl+nr)):=ht.fil ⟨[nl,nr],rfl,by simp,fun i x q e1 e2=>by
           match i,e1,e2 with
           |0,e1,e2=>cases e1;cases e2;exact hxl
           |1,e1,e2=>cases e1;cases e2;exact hxr
           |i+2,e1,e2=>cases e1⟩
         have d1:=z04 (p:=2) (ev:=oE A B.length u (some (mkD m ab l t r sz ht' to ba))) (w:=B.length) (q:=m) (x:=mkD m ab l t r sz ht' to ba) (f:=ix0) (g:=eV 4) rfl hs1 (ix _) (e_v rfl) hk (by omega);rw[zya]at d1;have fl:([l,r].filter nn).length<=2:=z8q _ _;have a1:=z1n (p:=3) (S:=B++.dct (kvs++[(m,mkD m ab l t r sz ht' to ba)])::J.set u (.lst td)) (ev:=oE A B.length u (some (mkD m ab l t r sz ht' to ba))) (w:=B.length+1+u) (td:=td) (us:=[l,r].filter nn) (g:=oC) rfl (by rw[z44,z7w hul]) (z5y hxl hxr) (by omega);have jb2:JB (J.set u (.lst td)++[.lst (td++[l,r].filter nn)]):=jb1.add (zct ht2.bnd);obtain⟨kvs',J',u',o3',e1⟩:=zdg hU hpl hn A B h5 f (td:=td++[l,r].filter nn) (J:=J.set u (.lst td)++[.lst (td++[l,r].filter nn)]) (u:=J.length) (some (mkD m ab l t r sz ht' to ba)) ht2 (by omega) wk' (by rw[z6y (by simp)];simp) jb2 (by simp;omega);have el:(B++MO.dct (kvs++[(m,mkD m ab l t r sz ht' to ba)])::J.set u (.lst td)).length=B.length+1+J.length:=by simp;omega
         rw[el,z61]at a1;have s3:qp 3 (zmn (eV 3) oC) (oE A B.length u (some (mkD m ab l t r sz ht' to ba))) (B++.dct (kvs++[(m,mkD m ab l t r sz ht' to ba)])::J.set u (.lst td))=some (.nx (oE A B.length J.length (some (mkD m ab l t r sz ht' to ba))),B++.dct (kvs++[(m,mkD m ab l t r sz ht' to ba)])::(J.set u (.lst td)++[.lst (td++[l,r].filter nn)])):=zv a1;exact⟨kvs',J',u',o3',znf cnd (zh s1 (zh s2 (z8 ((zoy (p:=2) (w:=B.length) (q:=m) rfl hs1 (ix _)).trans (by rw[hk];rfl)) (zh d1 s3)))) e1⟩
theorem zma{rs:List D}{cs A:Nat}(hU:∀v v',P v->P v'->num v=num v'->v=v')(hpl:∀v,P v->pl 150 v=true)(hn:∀v,P v->0<=num v/\num v<n)(hr:∃f:List Nat,f.length=rs.length/\f.sum=cs/\∀(i:Nat) (x:D) (q:Nat),rs[i]? = some x->f[i]? = some q->Nt P x q)(hc:cs<5000)(hS:SB S)(h5:S[5]? = some (wd (y6 k) n))(hA:S[A]? = some (.lst rs)) :
   xb [.obj 5,.obj A] S=some (.bl true,S):=by
 have ht:Nts P ([]++rs.filter nn) (0+cs):=Nts.fil .nil hr;rw[List.nil_append,z99]at ht;have hx:∀x∈rs,∃c,Nt P x c:=fun x hx=>by obtain⟨f,h1,_,h3⟩:=hr;obtain⟨j,hj,ej⟩:=z7i hx;exact⟨f[j]'(by omega),h3 j x _ (by rw[z6s hj,ej]) (z6s (by omega))⟩
 have w0:Wk P rs [] (rs.filter nn):=⟨fun p hp=>(by cases hp),List.nodup_nil,fun p hp=>(by cases hp),fun x h=>by
   obtain⟨c,q⟩:=hx x h;by_cases e:x=.non
   · exact .inl e
   · exact .inr (.inl (z83.mpr ⟨h,z4s q e⟩))⟩
 have jb0:JB [.lst (rs.filter nn)]:=fun m hm=>by rw[z6q.mp hm];exact zct ht.bnd
 obtain⟨kvs,J,u,o3,c1⟩:=zdg (k:=k) hU hpl hn A S h5 5000 (u:=0) none ht hc w0 rfl jb0 (by simp;omega);have hA':(S++[MO.dct []])[A]? = some (.lst rs):=by rw[z7d (z6o.mp hA).1];exact hA
 have e3:zat [] (zih (eV 1)) (bE (e2 ju (eV 0) (eK .non))) (eV 0) [some (.obj 5),some (.obj A),some (.obj S.length),none,none] (S++[.dct []])=some (.obj (S.length+1),S++[MO.dct [],MO.lst (rs.filter nn)]):=by
   unfold zat zih;rw[e_v (d:=.obj A) rfl];simp only[Option.bind_some,hA',zao];rw[zed (p:=nn) hA' rs fun y hy=>by
     obtain⟨c,q⟩:=hx y hy;exact z2z q]
   simp
 have run:z9 5 2 y3 [.obj 5,.obj A] S=some (.bl true,S++.dct kvs::J):=jq rfl (zh (zv (d:=.obj S.length) (S1:=S++[MO.dct []]) rfl) (zh (zv e3) (zh (show zhb 5000 (bE (e2s zhg (eV 3) (zq1 aN))) oB (oE A S.length 0 none) (S++[MO.dct [],MO.lst (rs.filter nn)])=_ from c1) (zw e_k))));show frz (z9 5 2 y3) [.obj 5,.obj A] S=_;unfold frz;rw[run];have e1:(S++MO.dct kvs::J).take S.length=S:=qbt;have e2:S.all (zm2 S.length)=true:=z7v.mpr hS;simp only[Option.bind_some,e1,e2,z8f];rfl
end Pg
namespace Pg
open PySem L2 F
noncomputable section
def z1i:C :=
 (z5 (qp 1 (e2 qz (zn zq (aC (eV 0) (aC (eK (.int 0)) aN))) (eK (.int 8)))) (z5 (qp 2 (eK .non)) (z5 (sIf (zm6 (bE (e2 zii (eV 1) (eK (.int 4)))) (bE (e2 j7 (e2 qz (zn zq (aC (eV 0) (aC (eK (.int 13)) aN))) (eK (.int 2))) (eK (.int 0))))) (qp 2 (zud 2 "law" lt_2)) je) (z5 (qp 3 (zeu (aC (e2 qz (zn zq (aC (eV 0) (aC (eK (.int 1)) aN))) (eK (.int 15))) (aC (e2 qz (zn zq (aC (eV 0) (aC (eK (.int 2)) aN))) (eK (.int 15))) aN)))) (z5 (sIf (bE (e2 j7 (e2 qz (zn zq (aC (eV 0) (aC (eK (.int 3)) aN))) (eK (.int 8))) (eK (.int 3)))) (zlz (eV 3) (e2 qz (zn zq (aC (eV 0) (aC (eK (.int 4)) aN))) (eK (.int 2))) (eK (.int 70))) je) (z5 (qp 4 (zn q9 (aC (eV 1) (aC (xc [1,0] (zq0 (e2s qa (eV 3) (eK (.int 0)))) zqt (zn xr (aC (eV 1) (aC (zn zq (aC (eV 2) (aC (e2 qh (eK (.int 20)) (eV 0)) aN))) aN)))) aN)))) (z5 (qp 5 (zat [1,0] (zq0 (e2s qa (eV 3) (eK (.int 1)))) zqt (zn xr (aC (eV 1) (aC (zn zq (aC (eV 2) (aC (e2 qh (eK (.int 100)) (eV 0)) aN))) aN))))) (z5 (zix 6 (eA zc7 (aC (eV 4) aN)) (sIf (bE (e2 j7 (e2 qz (zn zq (aC (eV 0) (aC (e2 qh (eK (.int 180)) (eV 6)) aN))) (eK (.int 3))) (eK (.int 0)))) (zcb (eLm zbf (eV 5) (aC (eK (.int 0)) (aC (zn xk (aC (eV 1) (aC (e2s qa (eV 4) (eV 6)) aN))) aN)))) je)) (z5 (qp 7 (zn q9 (aC (eV 1) (aC (eV 5) aN)))) (z5 (qp 8 (zmm "Wood" jd (aC (eV 2) aN))) (z5 (qp 9 (zn kg (aC (eV 0) (aC (eK (.int 5)) (aC (eV 8) (aC (eV 4) aN)))))) (z5 (qp 10 (zn kg (aC (eV 0) (aC (eK (.int 8)) (aC (eV 8) (aC (eV 7) aN)))))) (z5 (sIf (bE (e2 j7 (e2 qz (zn zq (aC (eV 0) (aC (eK (.int 11)) aN))) (eK (.int 8))) (eK (.int 5)))) (z5 (qp 7 (eV 4)) (qp 10 (eV 9))) je) (z5 (qp 11 (zq1 (aC (eK (.str (Str.ofString "either"))) (aC (eK (.str (Str.ofString "common"))) (aC (eK (.str (Str.ofString "less"))) (aC (eK (.str (Str.ofString "either"))) (aC (eK (.str (Str.ofString "common"))) aN))))))) (z5 (qp 12 (e2 qz (zn zq (aC (eV 0) (aC (eK (.int 12)) aN))) (eK (.int 3)))) (z5 (qp 13 (zeu (aC (eV 9) (aC (eV 10) aN)))) (z5 (zfv 14 (e2 qh (eSl (eV 11) (pE (eV 12)) (pE (e2 qh (eV 12) (eK (.int 3))))) (eSl (eV 11) pN (pE (eK (.int 1))))) (z5 (qp 15 (zn ym (aC (eV 8) (aC (eV 14) (aC (eV 9) (aC (eV 10) (aC (eV 1) aN))))))) (z5 (sIf (bOr (zbq (bE (zn (ke 40) (aC (eV 15) (aC (eV 2) aN))))) (bE (e2 zi0 (zn qt (aC (eV 15) aN)) (zn y9 (aC (eV 1) (aC (eV 14) (aC (eV 4) (aC (eV 7) aN)))))))) (qm (eK (.bl false))) je) (xg (eV 13) (eV 15))))) (qm (zfi (e2 j7 (zn qt (aC (eV 9) aN)) (eV 4)) (zfi (e2 j7 (zn qt (aC (eV 10) aN)) (eV 7)) (zn xb (aC (eV 8) (aC (eV 13) aN)))))))))))))))))))))))
def g_law:G:=z9 16 1 z1i
end
end Pg
namespace Pg
open PySem L2 F Mt
variable {k:Nat} [Kd k] {d d0 d1 d2 l r t x y:D}{ts us as bs rt:List D}{h i j g rh h1 h2:Nat}{n:Int}{S S0 S1 R:Sto}{ev:Ev}{T:D->Prop}{lt:D->D->Bool}{f:LT}{vs:List D}
theorem zo1(h:∀x∈ts,Thing k x):noC (yc k ts)=true:=by have:=zxz h;generalize yc k ts=z at this ⊢;cases this<;>rfl
theorem zzh(hx:Thing k x):noC x=true:=by cases zkb hx<;>rfl
theorem zkw(m:Mk k d ts h):noC d=true:=by
 induction m with
 |non=>rfl
 | @node num a l t r lt rt lh rh ml mr ht h1 h2 i1 i2=>
   have ta:∀x∈ord a (lt++t::rt),Thing k x:=(Mk.node (num:=num) (a:=a) ml mr ht h1 h2).things;have tb:∀x∈(ord a (lt++t::rt)).reverse,Thing k x:=zn4 ta;unfold mkD;show noCL _=true;simp only[noCL,i1,i2,zzh ht,zo1 ta,zo1 tb,F.noC,qb2]
theorem zo2:∀{l:List D},(∀d∈l,noC d=true)->noCL l=true
 | [],_=>rfl
 |x::l,h=>by unfold noCL;rw[h x (z6w ..),zo2 fun y hy=>h y (z6r _ hy)];rfl
inductive Wd:Str->Prop where
 |ei:Wd (Str.ofString "either")
 |co:Wd (Str.ofString "common")
 |le:Wd (Str.ofString "less")
theorem z4b:j7 (.str (Str.ofString "either")) (.str (Str.ofString "either"))=some (.bl true):=zsm rfl
theorem z4d:j7 (.str (Str.ofString "common")) (.str (Str.ofString "common"))=some (.bl true):=zsm rfl
theorem z18{a b:Str}(e:a≠b):j7 (.str a) (.str b)=some (.bl false):=by
 obtain⟨z,h1,h2⟩:=z2k (.str a) (.str b) 149;unfold j7;rw[h1];cases z with
 |false=>rfl
 |true=>exact absurd (D.str.inj (h2.mp rfl)) e
theorem z4c:j7 (.str (Str.ofString "common")) (.str (Str.ofString "either"))=some (.bl false):=z18 (by decide +kernel)
theorem z39:j7 (.str (Str.ofString "less")) (.str (Str.ofString "either"))=some (.bl false):=z18 (by decide +kernel)
theorem z4a:j7 (.str (Str.ofString "less")) (.str (Str.ofString "common"))=some (.bl false):=z18 (by decide +kernel)
theorem zuq{p:Pre}{w0:List D}{κ:Int}(hk:k=0\/5<=κ)(h0:0<=κ)(h8:κ<8)(q:Rk p R)(s1:Ste k (j9 κ) (ltk κ) d1 as h1)(s2:Ste k (j9 κ) (ltk κ) d2 bs h2)(hl:as.length+bs.length<=500){w:Str}(hw:Wd w) :
   ∃d h new rs,ym [.obj 5,.str w,d1,d2,.int κ] (Z p k w0 R)=some (d,Z p k (w0++new) R)/\Ste k (j9 κ) (ltk κ) d rs h/\All (U (w0++new)) d/\rs.length<=500/\∀S,SB S->noCS S=true->S[1]? = some tS->y9 [.int κ,.str w,.lst as,.lst bs] S=some (.lst rs,S):=by
 have B:=z3z hk h0 h8;have l1:∀{cl},qp 5 (zud 0 "_law_told" { lt_1 with cl:=cl }) [some (.obj 5),some (.str w),some d1,some d2,some (.int κ),none] (Z p k w0 R)=some (.nx [some (.obj 5),some (.str w),some d1,some d2,some (.int κ),some (.lam { lt_1 with cl:=cl })],Z p k w0 R):=zv (zzu (y:="_law_told") rfl rfl);have ab:Al (j9 κ) (as++bs):=fun z hz=>(z62.mp hz).elim (s1.al z) (s2.al z);cases hw with
 | ei=>
   obtain⟨d,h,new,c,s,au⟩:=zqa (p:=p) (w0:=w0) B q s1 s2 (by omega);refine⟨d,h,new,_,zwg fun cl=>jq rfl (zh l1 (qi (z8 (qj (e_2 (e_v rfl) e_k z4b)) (zw (zjq (a_c (e_v rfl) (a_c (e_v rfl) (a_c (e_v rfl) a_n))) rfl rfl c (zkw s.mm) q.noCS))))),s,au,?_,fun S hS hc ht=>?_⟩
   · obtain⟨_,_,lm⟩:=zhj B.sw s1.al s2.al s1.sr s2.sr;rw[lm];have:=z8q (fun x=>!hs (ltk κ) as x) bs;omega
   · rw[<-z07 s1.al s2.al s1.sr s2.sr];exact jq rfl (qi (z8 (qj (e_2 (e_v rfl) e_k z4b)) (zw (zj (a_c (e_v rfl) (a_c (e_2 (e_v rfl) (e_v rfl) (zg1 (by omega))) a_n)) (zke h0 h8 ab (by rw[z6k];omega) hS hc ht)))))
 | co=>
   obtain⟨d,h,new,c,s,au⟩:=zqk (p:=p) (w0:=w0) B q s1 s2 (by omega) (by omega);refine⟨d,h,new,_,zwg fun cl=>jq rfl (zh l1 (zh (zo (qj (e_2 (e_v rfl) e_k z4c))) (qi (z8 (qj (e_2 (e_v rfl) e_k z4d)) (zw (zjq (a_c (e_v rfl) (a_c (e_v rfl) (a_c (e_v rfl) a_n))) rfl rfl c (zkw s.mm) q.noCS)))))),s,au,z67 (z8q ..) (by omega),fun S hS hc ht=>?_⟩;exact jq rfl (zh (zo (qj (e_2 (e_v rfl) e_k z4c))) (qi (z8 (qj (e_2 (e_v rfl) e_k z4d)) (zw (zh0 (p:=hs (ltk κ) bs) (e_v rfl) fun z hz=>qj (zj (a_c (e_v rfl) (a_c (e_v rfl) (a_c (e_v rfl) a_n))) ((zqv h0 h8 (s1.al z hz) s2.al).trans (by rw[zmj]))))))))
 | le=>
   obtain⟨d,h,new,c,s,au⟩:=zv5 (p:=p) (w0:=w0) B q s1 s2 (by omega) (by omega);refine⟨d,h,new,_,zwg fun cl=>jq rfl (zh l1 (zh (zo (qj (e_2 (e_v rfl) e_k z39))) (zh (zo (qj (e_2 (e_v rfl) e_k z4a))) (zw (zjq (a_c (e_v rfl) (a_c (e_v rfl) (a_c (e_v rfl) a_n))) rfl rfl c (zkw s.mm) q.noCS))))),s,au,z67 (z8q ..) (by omega),fun S hS hc ht=>?_⟩;exact jq rfl (zh (zo (qj (e_2 (e_v rfl) e_k z39))) (zh (zo (qj (e_2 (e_v rfl) e_k z4a))) (zw (zh0 (p:=fun x=>!hs (ltk κ) bs x) (e_v rfl) fun z hz=>z1k (qj (zj (a_c (e_v rfl) (a_c (e_v rfl) (a_c (e_v rfl) a_n))) ((zqv h0 h8 (s1.al z hz) s2.al).trans (by rw[zmj]))))))))
def Kp(k:Nat)(w:List D)(ks:List D):Prop:=∀d∈ks,∃ts h,Mk k d ts h/\All (U w) d/\ts.length<=500
theorem Kp.rk{w ks:List D}{p:Pre}(q:Rk p [])(hm:Kp k w ks):Rk p [.lst ks]:=by
 refine⟨q.psz,q.psm,?_,fun m hq=>?_⟩
 · show(noCL ks&&true)=true;rw[zo2 fun d he=>?_];rfl;obtain⟨ts,h,mm,_⟩:=hm d he;exact zkw mm
 · rw[z6q.mp hq];refine zct fun d he=>?_;obtain⟨ts,h,mm,_⟩:=hm d he;exact zuj (Mk.bnd0 mm)
theorem Kp.app{w new ks:List D}(hm:Kp k w ks)(m:Mk k d ts h)(a:All (U (w++new)) d)(hl:ts.length<=500):Kp k (w++new) (ks++[d]):=fun e he=>by
 rcases z62.mp he with z | z
 · obtain⟨ts,h,mm,au,ll⟩:=hm e z;exact⟨ts,h,mm,au.mono fun _ hv=>hv.app,ll⟩
 · rw[z6q.mp z];exact⟨ts,h,m,a,hl⟩
def wdsL:List D:=[.str (Str.ofString "either"),.str (Str.ofString "common"),.str (Str.ofString "less"),.str (Str.ofString "either"),.str (Str.ofString "common")]
def El(ns:List Int)(κ:Int)(k:Nat)(as:List D)(o6:Option D)(bs:List D)(d1 d2:D)(c:Int)(o14 o15:Option D):Ev:=[some (.lst (ns.map D.int)),some (.int κ),some (y6 k),some (.obj 3),some (.lst as),some (.obj 4),o6,some (.lst bs),some (.obj 5),some d1,some d2,some (.lst wdsL),some (.int c),some (.obj 6),o14,o15]
def wB:C:=(z5 (qp 15 (zn ym (aC (eV 8) (aC (eV 14) (aC (eV 9) (aC (eV 10) (aC (eV 1) aN))))))) (z5 (sIf (bOr (zbq (bE (zn (ke 40) (aC (eV 15) (aC (eV 2) aN))))) (bE (e2 zi0 (zn qt (aC (eV 15) aN)) (zn y9 (aC (eV 1) (aC (eV 14) (aC (eV 4) (aC (eV 7) aN)))))))) (qm (eK (.bl false))) je) (xg (eV 13) (eV 15))))
theorem zo7(ns:List Int){κ:Int}(hk:k=0\/5<=κ)(h0:0<=κ)(h8:κ<8){p:Pre}(q:Rk p [])(s1:Ste k (j9 κ) (ltk κ) d1 as h1)(s2:Ste k (j9 κ) (ltk κ) d2 bs h2)(hl:as.length+bs.length<=500){o6:Option D}{c:Int}:∀(js:List D),(∀x∈js,∃w,x=.str w/\Wd w)->∀{w0 ks:List D} (o14 o15:Option D),Kp k w0 ks->ks.length+js.length<1000 ->
   ∃w1 ks' o14' o15',Kp k (w0++w1) ks'/\ks'.length=ks.length+js.length/\za0 14 wB js (El ns κ k as o6 bs d1 d2 c o14 o15) (Z p k w0 [.lst ks])=some (.nx (El ns κ k as o6 bs d1 d2 c o14' o15'),Z p k (w0++w1) [.lst ks'])
 | [],_,w0,ks,o14,o15,hm,_=>⟨[],ks,o14,o15,by rw[z7h];exact hm,rfl,by rw[z7h];rfl⟩
 | jj::js,hj,w0,ks,o14,o15,hm,lk=>by obtain⟨w,rfl,hw⟩:=hj jj (z6w ..);rw[List.length_cons]at lk;obtain⟨d,h,new,rs,ct,s,au,lr,cd⟩:=zuq (p:=p) (w0:=w0) (R:=[.lst ks]) hk h0 h8 (hm.rk q) s1 s2 hl hw;have km:=hm.app s.mm au lr;have rk:Rk p [.lst ks]:=hm.rk q;have ir:ke 40 [d,y6 k] (Z p k (w0++new) [.lst ks])=some (.bl true,Z p k (w0++new) [.lst ks]):=zja s.mm (n:=40) (by have:=h15 s.mm (by omega);omega) (by omega) _;obtain⟨w1,ks',p14,p15,k1,l1,ih⟩:=zo7 ns hk h0 h8 q s1 s2 hl (o6:=o6) (c:=c) js (fun x hx=>hj x (z6r _ hx)) (some (.str w)) (some d) km (by simp;omega);rw[z61]at k1 ih;refine⟨new++w1,ks',p14,p15,k1,by rw[l1];simp;omega,zbx ?_ ih⟩;refine zh (zv (zj (a_c (e_v rfl) (a_c (e_v rfl) (a_c (e_v rfl) (a_c (e_v rfl) (a_c (e_v rfl) a_n))))) ct)) (zh (zo (zs7 (zq2 (qj (zj (a_c (e_v rfl) (a_c (e_v rfl) a_n)) ir))) (qj (e_2 (zj (a_c (e_v rfl) a_n) (jy s.mm (by omega) rk.sb)) (zj (a_c (e_v rfl) (a_c (e_v rfl) (a_c (e_v rfl) (a_c (e_v rfl) a_n)))) (cd _ rk.sb rk.noCS rfl)) (zzj (zah (by decide) (zol s.mm.things))))))) ?_);exact zb9 (j:=6) (us:=ks) (S:=Z p k (w0++new) [.lst ks]) rfl rfl (e_v rfl) (by omega)
theorem All.and{P Q:D->Prop}(h:All P d)(q:All Q d):All (fun v=>P v/\Q v) d:=by
 induction h with
 |non=>exact .non
 | node p _ _ i1 i2=>
   cases q with
   |node q a b=>exact .node ⟨p,q⟩ (i1 a) (i2 b)
theorem z5a{w:List D}{v v':D}(a:U w v)(b:U w v')(e:num v=num v'):v=v':=by
 obtain⟨i,h1,h2⟩:=a;obtain⟨j,h3,h4⟩:=b;have:i=j:=by omega
 subst this;exact z7s (h1.symm.trans h3)
def thE(c0:Int):E:=(zn xr (aC (eV 1) (aC (zn zq (aC (eV 2) (aC (e2 qh (eK (.int c0)) (eV 0)) aN))) aN)))
theorem zco(ns:List Int)(hn:ns.length<=63){κ:Int}(h0:0<=κ)(h8:κ<8){c0:Int}(g0:0<=c0)(g1:c0<=1000):∀(m lo:Nat),lo+m<=10000->∃ys,Al (j9 κ) ys/\ys.length=m/\∀S,zef zqt (thE c0) [some (.int κ),some (.lst (ns.map D.int))] (jc (lo:Int) m) S=some (ys,S)
 |0,lo,_=>⟨[],(fun z hz=>by cases hz),rfl,fun S=>rfl⟩
 | m+1,lo,hm=>by obtain⟨ys,al,ll,ih⟩:=zco ns hn h0 h8 g0 g1 m (lo+1) (by omega);obtain⟨c,e0,e1,hc⟩:=ki ns hn (q:=c0+(lo:Int)) (by omega) (by omega);obtain⟨x,tx,cx⟩:=zq8 h0 h8 c e0 (by omega);refine⟨x::ys,fun z hz=>(z6n.mp hz).elim (fun e=>e▸tx) (al z),by rw[List.length_cons,ll],fun S=>?_⟩;rw[ze6,show((lo:Int)+1)=((lo+1:Nat):Int)from rfl];have g:thE c0 (some (.int (lo:Int))::[some (.int κ),some (.lst (ns.map D.int))]) S=some (x,S):=zj (a_c (e_v rfl) (a_c (zj (a_c (e_v rfl) (a_c (e_2 e_k (e_v rfl) (add_int _ _)) a_n)) (hc _)) a_n)) (cx _);unfold zef;show((thE c0 (some (.int (lo:Int))::[some (.int κ),some (.lst (ns.map D.int))]) S).bind fun q=>(zef zqt (thE c0) [some (.int κ),some (.lst (ns.map D.int))] (jc ((lo+1:Nat):Int) m) q.2).bind fun r=>some (q.1::r.1,r.2))=_;rw[g];simp only[Option.bind_some,ih]
theorem z5r{c:Nat}:∀x∈jc 0 c,∃i:Nat,x=.int i/\i<c:=fun x hx=>by unfold jc at hx;obtain⟨j,hj,rfl⟩:=z9k.mp hx;exact⟨j,by simp,List.mem_range.mp hj⟩
def V(sz sm:List D):Sto:=[tT,tS,tL,.lst sz,.lst sm]
def E6(ns:List Int)(κ:Int)(k:Nat)(as:List D)(o6:Option D):Ev:=[some (.lst (ns.map D.int)),some (.int κ),some (y6 k),some (.obj 3),some (.lst as),some (.obj 4),o6,none,none,none,none,none,none,none,none,none]
def iB:C:=(sIf (bE (e2 j7 (e2 qz (zn zq (aC (eV 0) (aC (e2 qh (eK (.int 180)) (eV 6)) aN))) (eK (.int 3))) (eK (.int 0)))) (zcb (eLm zbf (eV 5) (aC (eK (.int 0)) (aC (zn xk (aC (eV 1) (aC (e2s qa (eV 4) (eV 6)) aN))) aN)))) je)
theorem zpn(ns:List Int)(hn:ns.length<=63){κ:Int}(h0:0<=κ)(h8:κ<8){sz:List D}(al:Al (j9 κ) as)(la:as.length<=1000):∀(js:List D),(∀x∈js,∃i:Nat,x=.int i/\i<as.length)->∀(sm:List D) (o6:Option D),Al (j9 κ) sm->sm.length+js.length<=5000 ->
   ∃sm' o6',Al (j9 κ) sm'/\sm'.length<=sm.length+js.length/\za0 6 iB js (E6 ns κ k as o6) (V sz sm)=some (.nx (E6 ns κ k as o6'),V sz sm')
 | [],_,sm,o6,hs,_=>⟨sm,o6,hs,z6l _,rfl⟩
 | jj::js,hj,sm,o6,hs,hl=>by
   obtain⟨i,rfl,hi⟩:=hj jj (z6w ..);rw[List.length_cons]at hl;obtain⟨c,_,_,hc⟩:=ki ns hn (q:=180+(i:Int)) (by omega) (by omega);have tst:bE (e2 j7 (e2 qz (zn zq (aC (eV 0) (aC (e2 qh (eK (.int 180)) (eV 6)) aN))) (eK (.int 3))) (eK (.int 0))) (E6 ns κ k as (some (.int (i:Int)))) (V sz sm)=some (decide (c%3=0),V sz sm):=qj (e_2 (e_2 (zj (a_c (e_v rfl) (a_c (e_2 e_k (e_v rfl) (add_int _ _)) a_n)) (hc _)) e_k (y8 (by decide))) e_k (zwv _ _));by_cases q:c%3=0
   · obtain⟨y,ty,cy⟩:=zw3 h0 h8 (al _ (z87 hi));have hy:Al (j9 κ) (y::sm):=fun z hz=>(z6n.mp hz).elim (fun e=>e▸ty) (hs z);obtain⟨sm',o6',a1,a2,ih⟩:=zpn ns hn h0 h8 al la js (fun x hx=>hj x (z6r _ hx)) (y::sm) (some (.int (i:Int))) hy (by simp;omega);refine⟨sm',o6',a1,by simp at a2 ⊢;omega,zbx (z8 (tst.trans (by rw[z68 q])) ?_) ih⟩;have ea:aC (eK (.int 0)) (aC (zn xk (aC (eV 1) (aC (e2s qa (eV 4) (eV 6)) aN))) aN) (E6 ns κ k as (some (.int (i:Int)))) (V sz sm)=some ([.int 0,y],V sz sm):=a_c e_k (a_c (zj (a_c (e_v rfl) (a_c (qw (e_v rfl) (e_v rfl) (zen (z6s hi))) a_n)) (cy _)) a_n);have hz:sizeLine=16777216:=z7z;have op:zbf sm [.int 0,y]=some (.non,y::sm):=by show(if(0:Int)<=0/\(0:Int)<=(sm.length:Int)/\sm.length<sizeLine then some (D.non,sm.take (0:Int).toNat++y::sm.drop (0:Int).toNat)else none)=_;rw[z64 ⟨Int.le_refl _,by omega,by omega⟩];rfl
     have el:eLm zbf (eV 5) (aC (eK (.int 0)) (aC (zn xk (aC (eV 1) (aC (e2s qa (eV 4) (eV 6)) aN))) aN)) (E6 ns κ k as (some (.int (i:Int)))) (V sz sm)=some (.non,V sz (y::sm)):=by unfold eLm;rw[e_v (i:=5) (d:=.obj 4) rfl];simp only[Option.bind_some,show(V sz sm)[4]? = some (.lst sm)from rfl,ea,op,Option.map_some];rfl
     show zcb _ (E6 ns κ k as (some (.int (i:Int)))) (V sz sm)=_;unfold zcb;rw[el];rfl
   · obtain⟨sm',o6',a1,a2,ih⟩:=zpn ns hn h0 h8 al la js (fun x hx=>hj x (z6r _ hx)) sm (some (.int (i:Int))) hs (by omega);exact⟨sm',o6',a1,by simp;omega,zbx (zo (tst.trans (by rw[z60 q]))) ih⟩
theorem zra{q c j:Nat}{v ix:E}{xs:List D}(hv:v ev S=some (x,S))(he:ev[q]? = some (some (.obj j)))(hi:ix ev S=some (.int (c:Nat),S))(hj:S[j]? = some (.lst xs))(hc:c<xs.length):zlz (eV q) ix v ev S=some (.nx ev,S.set j (.lst (xs.set c x))):=by
 have e1:ixN xs.length (c:Int)=some c:=by unfold ixN;simp;omega
 simp only[zlz,hv,Option.bind_some,e_v he,hi,hj,e1,Option.map_some]
theorem z5s{e:E}{n:Int}(h0:0<=n)(h1:n<=1000)(he:e ev S=some (.int n,S)):zq0 e ev S=some ((jc 0 n.toNat,none),S):=by
 have hz:sizeLine=16777216:=z7z;have c:-(2^62)<=n/\n<2^62/\n<=(sizeLine:Int):=⟨by omega,by omega,by omega⟩
 simp only[zq0,he,Option.bind_some];rw[z64 c]
theorem z4l{e:E}{m:Nat}(h1:m<=1000)(he:e ev S=some (.int (m:Int),S)):zq0 e ev S=some ((jc 0 m,none),S):=(z5s (by omega) (by omega) he).trans (by rw[Int.toNat_natCast])
theorem z1a{fr:List Nat}{e:E}{g:E}{m:Nat}{ys:List D}(hm:m<=1000)(he:e ev S=some (.int (m:Int),S))(hc:zef zqt g (fr.map (zg3 ev)) (jc 0 m) S=some (ys,S)):xc fr (zq0 e) zqt g ev S=some (.lst ys,S):=by unfold xc;rw[z4l hm he];simp only[Option.bind_some,zao,hc,Option.map_some]
theorem z09{fr:List Nat}{e:E}{g:E}{m:Nat}{ys:List D}(hm:m<=1000)(he:e ev S=some (.int (m:Int),S))(hc:zef zqt g (fr.map (zg3 ev)) (jc 0 m) S=some (ys,S)):zat fr (zq0 e) zqt g ev S=some (.obj S.length,S++[.lst ys]):=by unfold zat;rw[z4l hm he];simp only[Option.bind_some,zao,hc,Option.map_some]
theorem sb4(a b:Int):SB [tT,tS,tL,.lst [.int a,.int b]]:=fun m hm=>by
 rcases z6n.mp hm with rfl | hm
 · rfl
 rcases z6n.mp hm with rfl | hm
 · rfl
 rcases z6n.mp hm with rfl | hm
 · rfl
 rw[z6q.mp hm];rfl
theorem sbV{κ:Int}{a b:Int}{sm:List D}(al:Al (j9 κ) sm):SB (V [.int a,.int b] sm):=fun m hm=>by
 rcases z6n.mp hm with rfl | hm
 · rfl
 rcases z6n.mp hm with rfl | hm
 · rfl
 rcases z6n.mp hm with rfl | hm
 · rfl
 rcases z6n.mp hm with rfl | hm
 · rfl
 rw[z6q.mp hm];exact xm (k:=0) fun x hx=>ze1 (al x hx)
theorem ncV{κ:Int}{a b:Int}{sm:List D}(al:Al (j9 κ) sm):noCS (V [.int a,.int b] sm)=true:=by show(zij tT&&(zij tS&&(zij tL&&(noCL [.int a,.int b]&&(noCL sm&&true)))))=true;rw[zf2 al];rfl
theorem rk0{κ:Int}{a b:Int}{sm:List D}(al:Al (j9 κ) sm):Rk ⟨[.int a,.int b],sm⟩ []:=⟨⟨rfl,rfl⟩,⟨xm (k:=0) fun x hx=>ze1 (al x hx),zf2 al⟩,rfl,fun m hm=>by cases hm⟩
def wE:E:=(e2 qh (eSl (eV 11) (pE (eV 12)) (pE (e2 qh (eV 12) (eK (.int 3))))) (eSl (eV 11) pN (pE (eK (.int 1)))))
theorem zq4{c:Nat}(hc:c<3){ns:List Int}{κ:Int}{o6 o14 o15:Option D}:∃js,js.length=4/\(∀x∈js,∃w,x=.str w/\Wd w)/\wE (El ns κ k as o6 bs d1 d2 c o14 o15) S=some (.lst js,S):=by
 have hw:∀x∈wdsL,∃w,x=.str w/\Wd w:=fun x hx=>by
   rcases z6n.mp hx with rfl | hx
   · exact⟨_,rfl,.ei⟩
   rcases z6n.mp hx with rfl | hx
   · exact⟨_,rfl,.co⟩
   rcases z6n.mp hx with rfl | hx
   · exact⟨_,rfl,.le⟩
   rcases z6n.mp hx with rfl | hx
   · exact⟨_,rfl,.ei⟩
   rw[z6q.mp hx];exact⟨_,rfl,.co⟩
 have l5:wdsL.length=5:=rfl;refine⟨(wdsL.take (c+3)).drop c++wdsL.take 1,by simp[l5];omega,fun x hx=>hw x ((z62.mp hx).elim (fun z=>z7l (z8x z)) z7l),?_⟩;exact e_2 (zxe (e_v rfl) (p_e (e_v rfl)) (p_e (e_2 (e_v rfl) e_k (add_int _ _))) (ztj (s:=c) (e:=c+3) (by omega) (by rw[l5];omega))) (zxe (e_v rfl) p_n (p_e e_k) (zx6 1)) (zg1 (by simp[l5];omega))
def z2o:C:=(z5 (qp 3 (zeu (aC (e2 qz (zn zq (aC (eV 0) (aC (eK (.int 1)) aN))) (eK (.int 15))) (aC (e2 qz (zn zq (aC (eV 0) (aC (eK (.int 2)) aN))) (eK (.int 15))) aN)))) (z5 (sIf (bE (e2 j7 (e2 qz (zn zq (aC (eV 0) (aC (eK (.int 3)) aN))) (eK (.int 8))) (eK (.int 3)))) (zlz (eV 3) (e2 qz (zn zq (aC (eV 0) (aC (eK (.int 4)) aN))) (eK (.int 2))) (eK (.int 70))) je) (z5 (qp 4 (zn q9 (aC (eV 1) (aC (xc [1,0] (zq0 (e2s qa (eV 3) (eK (.int 0)))) zqt (thE 20)) aN)))) (z5 (qp 5 (zat [1,0] (zq0 (e2s qa (eV 3) (eK (.int 1)))) zqt (thE 100))) (z5 (zix 6 (eA zc7 (aC (eV 4) aN)) iB) (z5 (qp 7 (zn q9 (aC (eV 1) (aC (eV 5) aN)))) (z5 (qp 8 (zmm "Wood" jd (aC (eV 2) aN))) (z5 (qp 9 (zn kg (aC (eV 0) (aC (eK (.int 5)) (aC (eV 8) (aC (eV 4) aN)))))) (z5 (qp 10 (zn kg (aC (eV 0) (aC (eK (.int 8)) (aC (eV 8) (aC (eV 7) aN)))))) (z5 (sIf (bE (e2 j7 (e2 qz (zn zq (aC (eV 0) (aC (eK (.int 11)) aN))) (eK (.int 8))) (eK (.int 5)))) (z5 (qp 7 (eV 4)) (qp 10 (eV 9))) je) (z5 (qp 11 (zq1 (aC (eK (.str (Str.ofString "either"))) (aC (eK (.str (Str.ofString "common"))) (aC (eK (.str (Str.ofString "less"))) (aC (eK (.str (Str.ofString "either"))) (aC (eK (.str (Str.ofString "common"))) aN))))))) (z5 (qp 12 (e2 qz (zn zq (aC (eV 0) (aC (eK (.int 12)) aN))) (eK (.int 3)))) (z5 (qp 13 (zeu (aC (eV 9) (aC (eV 10) aN)))) (z5 (zfv 14 wE wB) (qm (zfi (e2 j7 (zn qt (aC (eV 9) aN)) (eV 4)) (zfi (e2 j7 (zn qt (aC (eV 10) aN)) (eV 7)) (zn xb (aC (eV 8) (aC (eV 13) aN))))))))))))))))))))
def Ea(ns:List Int)(κ:Int)(k:Nat)(o3 o4 o5 o6 o7 o8 o9 o10:Option D):Ev:=[some (.lst (ns.map D.int)),some (.int κ),some (y6 k),o3,o4,o5,o6,o7,o8,o9,o10,none,none,none,none,none]
theorem zn6(ns:List Int)(hn:ns.length<=63){κ:Int}(hk:k=0\/5<=κ)(h0:0<=κ)(h8:κ<8):∃S',z2o (Ea ns κ k none none none none none none none none) [tT,tS,tL]=some (.rt (.bl true),S'):=by
 obtain⟨c1,_,_,hc1⟩:=ki ns hn (q:=1) (by decide) (by decide);obtain⟨c2,_,_,hc2⟩:=ki ns hn (q:=2) (by decide) (by decide);obtain⟨c3,_,_,hc3⟩:=ki ns hn (q:=3) (by decide) (by decide);obtain⟨c4,_,_,hc4⟩:=ki ns hn (q:=4) (by decide) (by decide);obtain⟨c11,_,_,hc11⟩:=ki ns hn (q:=11) (by decide) (by decide);obtain⟨c12,_,_,hc12⟩:=ki ns hn (q:=12) (by decide) (by decide);obtain⟨a0,ha0,ea0⟩:=zdo c1 (c:=15) (by decide);obtain⟨b0,hb0,eb0⟩:=zdo c2 (c:=15) (by decide);obtain⟨z,hz,ez⟩:=zdo c12 (c:=3) (by decide);obtain⟨u,hu,eu⟩:=zdo c4 (c:=2) (by decide);obtain⟨a,b,ha,hb,s2⟩:∃a b:Nat,a<=70/\b<=70/\sIf (bE (e2 j7 (e2 qz (zn zq (aC (eV 0) (aC (eK (.int 3)) aN))) (eK (.int 8))) (eK (.int 3)))) (zlz (eV 3) (e2 qz (zn zq (aC (eV 0) (aC (eK (.int 4)) aN))) (eK (.int 2))) (eK (.int 70))) je (Ea ns κ k (some (.obj 3)) none none none none none none none) [tT,tS,tL,.lst [.int a0,.int b0]]=some (.nx (Ea ns κ k (some (.obj 3)) none none none none none none none),[tT,tS,tL,.lst [.int (a:Int),.int (b:Int)]]):=by
   have tst:bE (e2 j7 (e2 qz (zn zq (aC (eV 0) (aC (eK (.int 3)) aN))) (eK (.int 8))) (eK (.int 3))) (Ea ns κ k (some (.obj 3)) none none none none none none none) [tT,tS,tL,.lst [.int a0,.int b0]]=some (decide (c3%8=3),[tT,tS,tL,.lst [.int a0,.int b0]]):=qj (e_2 (e_2 (zj (a_c (e_v rfl) (a_c e_k a_n)) (hc3 _)) e_k (y8 (by decide))) e_k (zwv _ _));by_cases q:c3%8=3
   · have it:=zra (ev:=Ea ns κ k (some (.obj 3)) none none none none none none none) (S:=[tT,tS,tL,.lst [.int a0,.int b0]]) (q:=3) (c:=u) (j:=3) (xs:=[.int a0,.int b0]) (v:=eK (.int 70)) (x:=.int 70) (ix:=(e2 qz (zn zq (aC (eV 0) (aC (eK (.int 4)) aN))) (eK (.int 2)))) e_k rfl (e_2 (zj (a_c (e_v rfl) (a_c e_k a_n)) (hc4 _)) e_k eu) rfl hu;have:u=0\/u=1:=by omega
     rcases this with rfl | rfl
     · exact⟨70,b0,by omega,by omega,z8 (tst.trans (by rw[z68 q])) it⟩
     · exact⟨a0,70,by omega,by omega,z8 (tst.trans (by rw[z68 q])) it⟩
   · exact⟨a0,b0,by omega,by omega,zo (tst.trans (by rw[z60 q]))⟩
 obtain⟨ys,aly,ly,cy⟩:=zco ns hn h0 h8 (c0:=20) (by decide) (by decide) a 0 (by omega);obtain⟨zs,alz,lz,cz⟩:=zco ns hn h0 h8 (c0:=100) (by decide) (by decide) b 0 (by omega);have so1:=zke (S:=[tT,tS,tL,.lst [.int (a:Int),.int (b:Int)]]) h0 h8 aly (by omega) (sb4 _ _) rfl rfl;have ala:Al (j9 κ) (q8 (cc κ) (dd κ [] ys)):=zce (zjo (fun z hz=>by cases hz) aly);have sra:Srt (ltk κ) (q8 (cc κ) (dd κ [] ys)):=znq;have la:(q8 (cc κ) (dd κ [] ys)).length<=70:=by rw[(jo _).length_eq];have:=zfj (κ:=κ) (xs:=ys) (us:=[]);simp at this;omega
 generalize q8 (cc κ) (dd κ [] ys)=as at so1 ala sra la;obtain⟨sm,o6,als,lm,lp⟩:=zpn (k:=k) (sz:=[.int (a:Int),.int (b:Int)]) ns hn h0 h8 ala (by omega) (jc 0 as.length) z5r zs none alz (by rw[zn3];omega);rw[zn3]at lm;have so2:=zrb (S:=V [.int (a:Int),.int (b:Int)] sm) (a:=4) h0 h8 rfl als (by omega) (sbV als) (ncV als) rfl;have alb:Al (j9 κ) (q8 (cc κ) (dd κ [] sm)):=zce (zjo (fun z hz=>by cases hz) als);have srb:Srt (ltk κ) (q8 (cc κ) (dd κ [] sm)):=znq;have lb:(q8 (cc κ) (dd κ [] sm)).length<=140:=by rw[(jo _).length_eq];have:=zfj (κ:=κ) (xs:=sm) (us:=[]);simp at this;omega
 generalize q8 (cc κ) (dd κ [] sm)=bs at so2 alb srb lb;have rk:Rk ⟨[.int (a:Int),.int (b:Int)],sm⟩ []:=rk0 als;generalize hp:(⟨[.int (a:Int),.int (b:Int)],sm⟩:Pre)=p at rk;obtain⟨d1,h1,w1,m1,u1,cd1⟩:=ztm (k:=k) (p:=p) (R:=[]) (w0:=[]) ns hn (ts:=as) (fun x hx=>zur hk (ala x hx)) (by omega) (f:=5) (by decide) (by decide);obtain⟨d2,h2,w2,m2,u2,cd2⟩:=ztm (k:=k) (p:=p) (R:=[]) (w0:=[]++w1) ns hn (ts:=bs) (fun x hx=>zur hk (alb x hx)) (by omega) (f:=8) (by decide) (by decide);have u1':All (U ([]++w1++w2)) d1:=u1.mono fun _ hv=>hv.app;generalize []++w1++w2=w at u1' u2 cd2;obtain⟨bs',d2',h2',s',u2',lb',s10⟩:∃bs' d2' h2',Ste k (j9 κ) (ltk κ) d2' bs' h2'/\All (U w) d2'/\bs'.length<=140/\sIf (bE (e2 j7 (e2 qz (zn zq (aC (eV 0) (aC (eK (.int 11)) aN))) (eK (.int 8))) (eK (.int 5)))) (z5 (qp 7 (eV 4)) (qp 10 (eV 9))) je (Ea ns κ k (some (.obj 3)) (some (.lst as)) (some (.obj 4)) o6 (some (.lst bs)) (some (.obj 5)) (some d1) (some d2)) (Z p k w [])=some (.nx (Ea ns κ k (some (.obj 3)) (some (.lst as)) (some (.obj 4)) o6 (some (.lst bs')) (some (.obj 5)) (some d1) (some d2')),Z p k w []):=by
   have tst:bE (e2 j7 (e2 qz (zn zq (aC (eV 0) (aC (eK (.int 11)) aN))) (eK (.int 8))) (eK (.int 5))) (Ea ns κ k (some (.obj 3)) (some (.lst as)) (some (.obj 4)) o6 (some (.lst bs)) (some (.obj 5)) (some d1) (some d2)) (Z p k w [])=some (decide (c11%8=5),Z p k w []):=qj (e_2 (e_2 (zj (a_c (e_v rfl) (a_c e_k a_n)) (hc11 _)) e_k (y8 (by decide))) e_k (zwv _ _));by_cases q:c11%8=5
   · exact⟨as,d1,h1,⟨m1,ala,sra⟩,u1',by omega,z8 (tst.trans (by rw[z68 q])) (zh (zv (e_v rfl)) (zv (e_v rfl)))⟩
   · exact⟨bs,d2,h2,⟨m2,alb,srb⟩,u2,lb,zo (tst.trans (by rw[z60 q]))⟩
 have s1:Ste k (j9 κ) (ltk κ) d1 as h1:=⟨m1,ala,sra⟩
 have k0:Kp k w [d1,d2']:=fun e he=>by
   rcases z6n.mp he with rfl | he
   · exact⟨as,h1,m1,u1',by omega⟩
   · rw[z6q.mp he];exact⟨bs',h2',s'.mm,u2',by omega⟩
 obtain⟨js,lj,hj,ew⟩:=zq4 (k:=k) (as:=as) (bs:=bs') (d1:=d1) (d2:=d2') (ns:=ns) (κ:=κ) (o6:=o6) (o14:=none) (o15:=none) (S:=Z p k w [.lst [d1,d2']]) hz;obtain⟨w3,ks,o14,o15,km,lk,lw⟩:=zo7 ns hk h0 h8 rk s1 s' (by omega) (o6:=o6) (c:=(z:Int)) js hj none none k0 (by rw[lj];simp);rw[lj]at lk;obtain⟨f,cf,f1,f2,f3,f4⟩:=zty (C:=500) (P:=fun v=>U (w++w3) v/\pl 150 v=true) (fs:=ks) fun i x e=>by obtain⟨ts,h,m,al,hl⟩:=km x (z7n e);exact⟨ts.length,hl,Mk.nt m (al.and (z1m m (by have:=h15 m (by omega);omega)))⟩
 have ow:=zma (k:=k) (n:=0+((w++w3).length:Int)) (P:=fun v=>U (w++w3) v/\pl 150 v=true) (A:=6) (S:=Z p k (w++w3) [.lst ks]) (fun v v' a b e=>z5a a.1 b.1 e) (fun v a=>a.2) (fun v a=>by
   obtain⟨j,e1,e2⟩:=a.1;have:=(z6o.mp e1).1;omega) ⟨f,f1,f2,f3⟩ (by simp at lk;omega) (km.rk rk).sb rfl rfl
 have i1:∀{T:Sto}{a b:Int},e2s qa (eV 3) (eK (.int 0)) (Ea ns κ k (some (.obj 3)) none none none none none none none) (tT::tS::tL::.lst [.int a,.int b]::T)=some (.int a,tT::tS::tL::.lst [.int a,.int b]::T):=qw (e_v rfl) e_k rfl;have i2:∀{T:Sto}{a b:Int},e2s qa (eV 3) (eK (.int 1)) (Ea ns κ k (some (.obj 3)) (some (.lst as)) none none none none none none) (tT::tS::tL::.lst [.int a,.int b]::T)=some (.int b,tT::tS::tL::.lst [.int a,.int b]::T):=qw (e_v rfl) e_k rfl;have s5:zix 6 (eA zc7 (aC (eV 4) aN)) iB (Ea ns κ k (some (.obj 3)) (some (.lst as)) (some (.obj 4)) none none none none none) (V [.int (a:Int),.int (b:Int)] zs)=some (.nx (Ea ns κ k (some (.obj 3)) (some (.lst as)) (some (.obj 4)) o6 none none none none),V [.int (a:Int),.int (b:Int)] sm):=znp (b:=iB) (n:=(as.length:Int)) (S1:=V [.int (a:Int),.int (b:Int)] zs) (e_a (a_c (e_v rfl) a_n) rfl) (by omega) (by omega) (by rw[Int.toNat_natCast];exact lp);subst hp;refine⟨_,zh (zv (zfg (S1:=[tT,tS,tL]) (a_c (e_2 (zj (a_c (e_v rfl) (a_c e_k a_n)) (hc1 _)) e_k ea0) (a_c (e_2 (zj (a_c (e_v rfl) (a_c e_k a_n)) (hc2 _)) e_k eb0) a_n)) (z7o rfl))) (zh s2 (zh (zv (zj (a_c (e_v rfl) (a_c (z1a (m:=a) (by omega) i1 (cy _)) a_n)) so1)) (zh (zv (z09 (m:=b) (by omega) i2 (cz _))) (zh s5 (zh (zv (zj (a_c (e_v rfl) (a_c (e_v rfl) a_n)) so2)) (zh (zv (zxn (e_v rfl))) (zh (zv (zj (a_c (e_v rfl) (a_c e_k (a_c (e_v rfl) (a_c (e_v rfl) a_n)))) cd1)) (zh (zv (zj (a_c (e_v rfl) (a_c e_k (a_c (e_v rfl) (a_c (e_v rfl) a_n)))) cd2)) (zh s10 (zh (zv (zsp (ds:=wdsL) (a_c e_k (a_c e_k (a_c e_k (a_c e_k (a_c e_k a_n))))) (z7o rfl))) (zh (zv (e_2 (zj (a_c (e_v rfl) (a_c e_k a_n)) (hc12 _)) e_k ez)) (zh (zv (zfg (S1:=Z _ k w []) (a_c (e_v rfl) (a_c (e_v rfl) a_n)) (z7o rfl))) (zh (zir (ds:=js) (S1:=Z _ k w [.lst [d1,d2']]) ew lw) (zw (zle (e_2 (zj (a_c (e_v rfl) a_n) (jy m1 (by omega) (km.rk rk).sb)) (e_v rfl) (zsm (zah (by decide) (zol m1.things)))) (zle (e_2 (zj (a_c (e_v rfl) a_n) (jy s'.mm (by omega) (km.rk rk).sb)) (e_v rfl) (zsm (zah (by decide) (zol s'.mm.things)))) (zj (a_c (e_v rfl) (a_c (e_v rfl) a_n)) ow)))))))))))))))))⟩
theorem law_ok:zun tabs g_law:=by
 intro ns hn;obtain⟨c0,_,_,hc0⟩:=ki ns hn (q:=0) (by decide) (by decide);obtain⟨c13,_,_,hc13⟩:=ki ns hn (q:=13) (by decide) (by decide);have h0:=z8j c0 (show(8:Int)≠0 by decide);have h8:=z74 c0 (show(0:Int)<8 by decide);generalize hκ:c0%8=κ at *;have fst:∀{c:C}{o:Out}{S'},c (Ea ns κ 0 none none none none none none none none) [tT,tS,tL]=some (o,S')->(z5 (qp 1 (e2 qz (zn zq (aC (eV 0) (aC (eK (.int 0)) aN))) (eK (.int 8)))) (z5 (qp 2 (eK .non)) c)) [some (.lst (ns.map D.int)),none,none,none,none,none,none,none,none,none,none,none,none,none,none,none] [tT,tS,tL]=some (o,S'):=fun hc=>
   zh (zv (d:=.int κ) (e_2 (zj (a_c (e_v rfl) (a_c e_k a_n)) (hc0 _)) e_k ((y8 (by decide)).trans (by rw[hκ])))) (zh (zv e_k) hc)
 have t13:∀S,bE (e2 j7 (e2 qz (zn zq (aC (eV 0) (aC (eK (.int 13)) aN))) (eK (.int 2))) (eK (.int 0))) (Ea ns κ 0 none none none none none none none none) S=some (decide (c13%2=0),S):=fun S=>qj (e_2 (e_2 (zj (a_c (e_v rfl) (a_c e_k a_n)) (hc13 _)) e_k (y8 (by decide))) e_k (zwv _ _));have t4:∀S,bE (e2 zii (eV 1) (eK (.int 4))) (Ea ns κ 0 none none none none none none none none) S=some (decide (4<κ),S):=fun S=>qj (e_2 (e_v rfl) e_k rfl);by_cases q:4<κ/\c13%2=0
 · obtain⟨S',c⟩:=zn6 (k:=2) ns hn (.inr (by omega)) h0 h8;exact⟨S',jq rfl (fst (zh (z8 (zem ((t4 _).trans (by rw[z68 q.1])) ((t13 _).trans (by rw[z68 q.2]))) (zv (zzu (y:="law") rfl rfl))) c))⟩
 · obtain⟨S',c⟩:=zn6 (k:=0) ns hn (.inl rfl) h0 h8;refine⟨S',jq rfl (fst (zh (zo ?_) c))⟩;by_cases q4:4<κ
   · exact zem ((t4 _).trans (by rw[z68 q4])) ((t13 _).trans (by rw[z60 fun z=>q ⟨q4,z⟩]))
   · exact zln ((t4 _).trans (by rw[z60 q4]))
end Pg
namespace Pg
open PySem L2 F PySem.Spec PyProof.Rows
variable {P:Program}{w:World}{K:zFr}{mg:zMg}{base:Heap}{f:Addr}{cdv:Value}{A:Around}{outer:List Env}{s:Shared}{H:Hp}{E:XK}
seal F.FE F.FB F.FW F.FA F.FS F.FSs F.FPt
def top(i:Nat):Stmt:=PySem.Challenge.pw_ownshelf_k22_two_sets.main.body.getD i (.Pass ⟨0,0,0,0⟩)
theorem _root_.L2.FnScope.auto7{N P:List Str}{sc:Scope}(h1:sc.kind=.function:=by rfl)(h2:sc.isCoroutine=false:=by rfl)(h3:sc.isGenerator=false:=by rfl)(h4:N.Nodup:=by decide +kernel)(h5:N.take P.length=P:=by rfl)(h6:∀x∈P,sc.names.lookup x=some .local\/sc.names.lookup x=some .cell:=by decide +kernel)(h7:∀y∈sc.names,y.2≠.free:=by decide +kernel):L2.FnScope N P sc:=⟨h1,h2,h3,h4,h5,h6,h7⟩
theorem _root_.L2.Room.rmd{j k:Nat}{A:Around}(r:Room k A)(h:j<=k:=by decide):Room j A:=r.mono h
abbrev s_Wood___init__:Stmt:=zd3 (top 45) 0
abbrev s__law_bent:Stmt:=top 74
abbrev s__law_cell:Stmt:=top 69
abbrev s__law_key:Stmt:=top 70
abbrev s__law_alike:Stmt:=top 72
abbrev s__law_sorted:Stmt:=top 73
abbrev s__law_due:Stmt:=top 76
abbrev s_Wood_made:Stmt:=zd3 (top 45) 1
abbrev s__law_of_wood:Stmt:=top 78
abbrev s_Wood_numbered:Stmt:=zd3 (top 45) 4
abbrev s_back:Stmt:=top 23
abbrev s_height:Stmt:=top 21
abbrev s_size:Stmt:=top 20
abbrev s_total:Stmt:=top 22
abbrev s_Wood_turned:Stmt:=zd3 (top 45) 3
abbrev s_check_room:Stmt:=top 44
abbrev s_height_above:Stmt:=top 27
abbrev s_in_balance:Stmt:=top 28
abbrev s_size_above:Stmt:=top 26
abbrev s_backward_sum:Stmt:=top 31
abbrev s_onward_sum:Stmt:=top 30
abbrev s_sums_above:Stmt:=top 29
abbrev s_Wood_node:Stmt:=zd3 (top 45) 2
abbrev s_built:Stmt:=top 50
abbrev s_make_of:Stmt:=top 49
abbrev s_check_stretch:Stmt:=top 48
abbrev s_parts:Stmt:=top 24
abbrev s_lifted_left:Stmt:=top 40
abbrev s_lifted_right:Stmt:=top 41
abbrev s_balanced:Stmt:=top 39
abbrev s_joined:Stmt:=top 38
abbrev s_cut_ahead:Stmt:=top 57
abbrev s_seen:Stmt:=top 25
abbrev s_thing_at:Stmt:=top 54
abbrev s_laid_together:Stmt:=top 56
abbrev s_taken_out:Stmt:=top 55
abbrev s_turned_part:Stmt:=top 58
abbrev s__law_set:Stmt:=top 75
abbrev s__law_thing:Stmt:=top 71
abbrev s_check_place:Stmt:=top 47
abbrev s_at:Stmt:=top 53
abbrev s_is_alike_at:Stmt:=top 63
abbrev s_count_before:Stmt:=top 61
abbrev s_place_of:Stmt:=top 60
abbrev s_has:Stmt:=top 62
abbrev s_gather:Stmt:=top 52
abbrev s_things_of:Stmt:=top 51
abbrev s_common:Stmt:=top 66
abbrev s_merged:Stmt:=top 65
abbrev s_either:Stmt:=top 64
abbrev s_less:Stmt:=top 67
abbrev s__law_told:Stmt:=top 77
abbrev s_is_whole:Stmt:=top 34
abbrev s_has_form:Stmt:=top 33
abbrev s_has_right_measures:Stmt:=top 35
abbrev s_has_right_sums:Stmt:=top 36
abbrev s_is_right:Stmt:=top 32
abbrev s_law:Stmt:=top 79
structure TX (K:zFr) (mg:zMg) (base:Heap):Prop where
 uf0:mg "abs"=none
 ue4:mg "bool"=none
 ufy:mg "int"=none
 ual:mg "isinstance"=none
 uao:mg "len"=none
 udu:mg "list"=none
 ugo:mg "max"=none
 ubt:mg "range"=none
 uca:mg "reversed"=none
 ufk:mg "sorted"=none
 ugc:mg "tuple"=none
 ubg:∃t,mg "ABOUT"=some (.int 1 t)
 uab:∃t,mg "AHEAD"=some (.int 0 t)
 udt:∃t,mg "BACK"=some (.int 8 t)
 uad:∃t,mg "BEHIND"=some (.int 2 t)
 ub5:∃t,mg "HEIGHT"=some (.int 6 t)
 ua6:∃t,mg "LEFT"=some (.int 2 t)
 uae:∃t,mg "MIDDLE"=some (.int 1 t)
 udi:∃t,mg "MOST_THINGS"=some (.int 2000 t)
 ufn:∃t,mg "NUMBER"=some (.int 0 t)
 uaq:∃t,mg "RIGHT"=some (.int 4 t)
 udm:∃t,mg "SIZE"=some (.int 5 t)
 ua8:∃t,mg "THING"=some (.int 3 t)
 uco:∃t,mg "TOTAL"=some (.int 7 t)
 ua1:∃t,mg "TURNED"=some (.int 3 t)
 ubr:∃t,mg "VALUES_OF_A_NODE"=some (.int 9 t)
 ubm:Fld K mg "Wood" "adding"
 uai:Fld K mg "Wood" "nodes_made"
 blt:zm5 base mg
 ucc:HasMk K mg "Wood" "Wood.__init__" s_Wood___init__ 1
 uef:HasDef K mg "_law_bent" s__law_bent 0
 ud8:HasDef K mg "_law_cell" s__law_cell 0
 uey:HasDef K mg "_law_key" s__law_key 0
 udn:HasDef K mg "_law_alike" s__law_alike 0
 udd:HasDef K mg "_law_sorted" s__law_sorted 0
 uev:HasDef K mg "_law_due" s__law_due 0
 uek:HasMth K mg "Wood" "made" "Wood.made" s_Wood_made
 ucq:HasDef K mg "_law_of_wood" s__law_of_wood 0
 ucd:HasMth K mg "Wood" "numbered" "Wood.numbered" s_Wood_numbered
 ugk:HasDef K mg "back" s_back 0
 ufl:HasDef K mg "height" s_height 0
 ugh:HasDef K mg "size" s_size 0
 uf9:HasDef K mg "total" s_total 0
 uc9:HasMth K mg "Wood" "turned" "Wood.turned" s_Wood_turned
 ud4:HasDef K mg "check_room" s_check_room 0
 ucn:HasDef K mg "height_above" s_height_above 0
 ud3:HasDef K mg "in_balance" s_in_balance 0
 udz:HasDef K mg "size_above" s_size_above 0
 uct:HasDef K mg "backward_sum" s_backward_sum 0
 ud6:HasDef K mg "onward_sum" s_onward_sum 0
 udv:HasDef K mg "sums_above" s_sums_above 0
 ud7:HasMth K mg "Wood" "node" "Wood.node" s_Wood_node
 uep:HasDef K mg "built" s_built 0
 ue2:HasDef K mg "make_of" s_make_of 0
 ucj:HasDef K mg "check_stretch" s_check_stretch 0
 uf1:HasDef K mg "parts" s_parts 0
 uc5:HasDef K mg "lifted_left" s_lifted_left 0
 ucz:HasDef K mg "lifted_right" s_lifted_right 0
 ues:HasDef K mg "balanced" s_balanced 0
 uds:HasDef K mg "joined" s_joined 0
 ubw:HasDef K mg "cut_ahead" s_cut_ahead 0
 ugf:HasDef K mg "seen" s_seen 0
 ub8:HasDef K mg "thing_at" s_thing_at 0
 ub6:HasDef K mg "laid_together" s_laid_together 0
 ubx:HasDef K mg "taken_out" s_taken_out 0
 udj:HasDef K mg "turned_part" s_turned_part 0
 uet:HasDef K mg "_law_set" s__law_set 0
 udo:HasDef K mg "_law_thing" s__law_thing 0
 uc4:HasDef K mg "check_place" s_check_place 0
 ugr:HasDef K mg "at" s_at 0
 udh:HasDef K mg "is_alike_at" s_is_alike_at 0
 ubf:HasDef K mg "count_before" s_count_before 0
 uex:HasDef K mg "place_of" s_place_of 0
 ugn:HasDef K mg "has" s_has 0
 ud2:HasDef K mg "gather" s_gather 0
 uej:HasDef K mg "things_of" s_things_of 0
 ufh:HasDef K mg "common" s_common 0
 ufm:HasDef K mg "merged" s_merged 0
 ufo:HasDef K mg "either" s_either 0
 uge:HasDef K mg "less" s_less 0
 ueo:HasDef K mg "_law_told" s__law_told 0
 ueu:HasDef K mg "is_whole" s_is_whole 0
 uer:HasDef K mg "has_form" s_has_form 0
 ubj:HasDef K mg "has_right_measures" s_has_right_measures 0
 ubz:HasDef K mg "has_right_sums" s_has_right_sums 0
 ucg:HasDef K mg "is_right" s_is_right 1
 ugs:HasDef K mg "law" s_law 0
theorem z5p:CloScope ["_law_thing_here"] ["_law_kind"] lt_0.scope:=⟨rfl,rfl,rfl,by decide +kernel,(z7r.mpr ⟨rfl,(fun _ h=>nomatch h)⟩),(z7r.mpr ⟨rfl,(fun _ h=>nomatch h)⟩),by decide +kernel,by decide +kernel⟩
theorem z6b(T:TX K mg base)(uah:Cal P w K mg base 1 "_law_key" ja){a c:Addr}{cl:zLA}{A:Around}{outer:List Env}{s:Shared}{H H1:Hp}{E:XK}(hr:Room 1 (A.deeper (PySem.W.envX lt_0.qual lt_0.scope s.heap.objs.size a (.ref c) cl))) :
   FE (cxC P w K mg base ["_law_thing_here", "_law_kind"] lt_0.qual lt_0.scope a (.ref c) cl A outer s H H1 E).nox lt_0.body z1z:=by
 exact(zg uah hr.rmd (zb (zf 1) (zb (zf 0) ze)))
theorem z4w(T:TX K mg base)(uah:Cal P w K mg base 1 "_law_key" ja):CCal P w K mg base 2 lt_0 z0e:=CCal.of (t:=lt_0) (ps:=["_law_thing_here"]) (k:=1) (f:=z1z) z5p rfl (fun _ _ _ _=>ls1 fun _=>rfl) (fun a c cl A outer s H H1 E hr=>z6b T uah hr)
theorem z5o:CloScope ["_law_one", "_law_other"] ["_law_kind"] lt_1.scope:=⟨rfl,rfl,rfl,by decide +kernel,(z7r.mpr ⟨rfl,(z7r.mpr ⟨rfl,(fun _ h=>nomatch h)⟩)⟩),(z7r.mpr ⟨rfl,(fun _ h=>nomatch h)⟩),by decide +kernel,by decide +kernel⟩
theorem z6a(T:TX K mg base)(uah:Cal P w K mg base 1 "_law_key" ja){a c:Addr}{cl:zLA}{A:Around}{outer:List Env}{s:Shared}{H H1:Hp}{E:XK}(hr:Room 1 (A.deeper (PySem.W.envX lt_1.qual lt_1.scope s.heap.objs.size a (.ref c) cl))) :
   FE (cxC P w K mg base ["_law_one", "_law_other", "_law_kind"] lt_1.qual lt_1.scope a (.ref c) cl A outer s H H1 E).nox lt_1.body z1y:=by
 exact(z0r hr (zg uah hr.rmd (zb (zf 2) (zb (zf 0) ze))) (zg uah hr.rmd (zb (zf 2) (zb (zf 1) ze))))
theorem z53(T:TX K mg base)(uah:Cal P w K mg base 1 "_law_key" ja):CCal P w K mg base 2 lt_1 z1w:=CCal.of (t:=lt_1) (ps:=["_law_one", "_law_other"]) (k:=1) (f:=z1y) z5o rfl (fun _ _ _ _=>ls2 fun _ _=>rfl) (fun a c cl A outer s H H1 E hr=>z6a T uah hr)
theorem sl_2:FnScope ["_law_one", "_law_other"] ["_law_one", "_law_other"] lt_2.scope:=.auto7
theorem z59(T:TX K mg base){a c:Addr}{A:Around}{outer:List Env}{s:Shared}{H:Hp}{E:XK}(hr:Room 0 (A.deeper (envOfC lt_2.qual lt_2.scope s.heap.objs.size a (.ref c)))) :
   FE (zg4 CX0 P w K mg base ["_law_one", "_law_other"] lt_2.qual lt_2.scope a (.ref c) A outer s H E).nox lt_2.body z4y:=by
 have nd:=sl_2.nd;exact(qq (zf 0) (zf 1))
theorem z52(T:TX K mg base):LCal P w K mg base 1 lt_2 z3g:=LCal.of sl_2 (fun _ _ _=>ls2 fun _ _=>rfl) (fun a c A outer s H E hr=>z59 T hr)
theorem sc_Wood___init__:FnScope ["self", "add"] ["self", "add"] (zk s_Wood___init__):=.auto7
theorem sc__law_bent:FnScope ["_law_kind", "_law_thing_here"] ["_law_kind", "_law_thing_here"] (zk s__law_bent):=.auto7
theorem sc__law_cell:FnScope ["_law_script", "_law_k", "_law_cell_here"] ["_law_script", "_law_k"] (zk s__law_cell):=.auto7
theorem sc__law_key:FnScope ["_law_kind", "_law_thing_here"] ["_law_kind", "_law_thing_here"] (zk s__law_key):=.auto7
theorem sc__law_alike:FnScope ["_law_kind", "_law_thing_here", "_law_others"] ["_law_kind", "_law_thing_here", "_law_others"] (zk s__law_alike):=.auto7
theorem sc__law_sorted:FnScope ["_law_kind", "_law_things", "_law_found", "_law_thing_here"] ["_law_kind", "_law_things"] (zk s__law_sorted):=.auto7
theorem sc__law_due:FnScope ["_law_kind", "_law_word", "_law_one", "_law_other"] ["_law_kind", "_law_word", "_law_one", "_law_other"] (zk s__law_due):=.auto7
theorem sc_Wood_made:FnScope ["self"] ["self"] (zk s_Wood_made):=.auto7
theorem sc__law_of_wood:FnScope ["_law_wood", "_law_makes", "_law_known", "_law_pile", "_law_node"] ["_law_wood", "_law_makes"] (zk s__law_of_wood):=.auto7
theorem sc_Wood_numbered:FnScope ["self", "rest", "number"] ["self", "rest"] (zk s_Wood_numbered):=.auto7
theorem sc_back:FnScope ["make"] ["make"] (zk s_back):=.auto7
theorem sc_height:FnScope ["make"] ["make"] (zk s_height):=.auto7
theorem sc_size:FnScope ["make"] ["make"] (zk s_size):=.auto7
theorem sc_total:FnScope ["make"] ["make"] (zk s_total):=.auto7
theorem sc_Wood_turned:FnScope ["self", "make", "row"] ["self", "make"] (zk s_Wood_turned):=.auto7
theorem sc_check_room:FnScope ["things"] ["things"] (zk s_check_room):=.auto7
theorem sc_height_above:FnScope ["left", "right"] ["left", "right"] (zk s_height_above):=.auto7
theorem sc_in_balance:FnScope ["left", "right"] ["left", "right"] (zk s_in_balance):=.auto7
theorem sc_size_above:FnScope ["left", "right"] ["left", "right"] (zk s_size_above):=.auto7
theorem sc_backward_sum:FnScope ["add", "left", "thing", "right", "result"] ["add", "left", "thing", "right"] (zk s_backward_sum):=.auto7
theorem sc_onward_sum:FnScope ["add", "left", "thing", "right", "result"] ["add", "left", "thing", "right"] (zk s_onward_sum):=.auto7
theorem sc_sums_above:FnScope ["add", "left", "thing", "right"] ["add", "left", "thing", "right"] (zk s_sums_above):=.auto7
theorem sc_Wood_node:FnScope ["self", "left", "thing", "right", "things", "measures", "sums"] ["self", "left", "thing", "right"] (zk s_Wood_node):=.auto7
theorem sc_built:FnScope ["wood", "things", "start", "end", "middle", "left", "right"] ["wood", "things", "start", "end"] (zk s_built):=.auto7
theorem sc_make_of:FnScope ["wood", "things"] ["wood", "things"] (zk s_make_of):=.auto7
theorem sc_check_stretch:FnScope ["make", "start", "end"] ["make", "start", "end"] (zk s_check_stretch):=.auto7
theorem sc_parts:FnScope ["wood", "make", "ahead", "behind"] ["wood", "make"] (zk s_parts):=.auto7
theorem sc_lifted_left:FnScope ["wood", "left", "thing", "right", "outer", "inner", "ahead", "behind"] ["wood", "left", "thing", "right"] (zk s_lifted_left):=.auto7
theorem sc_lifted_right:FnScope ["wood", "left", "thing", "right", "outer", "inner", "ahead", "behind"] ["wood", "left", "thing", "right"] (zk s_lifted_right):=.auto7
theorem sc_balanced:FnScope ["wood", "left", "thing", "right"] ["wood", "left", "thing", "right"] (zk s_balanced):=.auto7
theorem sc_joined:FnScope ["wood", "left", "thing", "right", "row"] ["wood", "left", "thing", "right"] (zk s_joined):=.auto7
theorem sc_cut_ahead:FnScope ["wood", "make", "place", "row", "middle", "halves"] ["wood", "make", "place"] (zk s_cut_ahead):=.auto7
theorem sc_seen:FnScope ["make", "turned"] ["make", "turned"] (zk s_seen):=.auto7
theorem sc_thing_at:FnScope ["make", "turned", "place", "row", "middle"] ["make", "turned", "place"] (zk s_thing_at):=.auto7
theorem sc_laid_together:FnScope ["wood", "one", "other"] ["wood", "one", "other"] (zk s_laid_together):=.auto7
theorem zeb(T:TX K mg base)(ua0:Cal P w K mg base (7+40) "joined" (ya 40))(uam:Cal P w K mg base (2+40) "thing_at" (xn 40)){self:G}{n:Nat}(hself:Cal P w K mg base (48+2*n) "taken_out" self)(hr0:Room (48+2*n) (A.deeper (envOfC "laid_together" (zk s_laid_together) s.heap.objs.size f cdv))) :
   FSs (zg4 CX0 P w K mg base ["wood", "one", "other"] "laid_together" (zk s_laid_together) f cdv A outer s H E).nox (j6 s_laid_together) (zbb self):=by
 have nd:=sc_laid_together.nd;have hr:=hr0.mono (z63 48 (2*n));exact(zd (qg (zd9 (zf 1) jm) (zi (zp (zf 2))) zt) (zd (qg (zd9 (zf 2) jm) (zi (zp (zf 1))) zt) (zi (zp (zg ua0 hr.rmd (zb (zf 0) (zb (zf 1) (zb (zg uam hr.rmd (zb (zf 2) (zb za6 (zb zm ze)))) (zb (zg hself hr0 (zb (zf 0) (zb (zf 2) (zb zm ze)))) ze)))))))))
theorem zaq(T:TX K mg base)(ua0:Cal P w K mg base (7+40) "joined" (ya 40))(uam:Cal P w K mg base (2+40) "thing_at" (xn 40)){self:G}{n:Nat}(hself:Cal P w K mg base (48+2*n) "taken_out" self):Cal P w K mg base (48+2*n+1) "laid_together" (jr self):=T.ub6.cal sc_laid_together (fun _ _ _ _ _ _=>ls3 fun _ _ _=>rfl) (fun f cdv A outer s H E hr=>zeb T ua0 uam hself hr)
theorem sc_taken_out:FnScope ["wood", "make", "place", "row", "middle"] ["wood", "make", "place"] (zk s_taken_out):=.auto7
theorem zjp(T:TX K mg base)(uat:Cal P w K mg base 6 "balanced" xq)(ubu:Cal P w K mg base 3 "parts" xy)(ub7:Cal P w K mg base 1 "size" kx){self aux:G}{n:Nat}(hself:Cal P w K mg base (48+2*n) "taken_out" self)(haux:Cal P w K mg base (48+2*n+1) "laid_together" aux)(hr0:Room (48+2*n+1) (A.deeper (envOfC "taken_out" (zk s_taken_out) s.heap.objs.size f cdv))) :
   FSs (zg4 CX0 P w K mg base ["wood", "make", "place", "row", "middle"] "taken_out" (zk s_taken_out) f cdv A outer s H E).nox (j6 s_taken_out) (zei self aux):=by
 have nd:=sc_taken_out.nd;have hr1:=hr0.mono (qb1 (48+2*n));have hr:=hr1.mono (z63 48 (2*n));exact(zd (zx 3 (zg ubu hr.rmd (zb (zf 0) (zb (zf 1) ze))) nd) (zd (zx 4 (zg ub7 hr.rmd (zb (zu (zf 3) (z0 T.uab)) ze)) nd) (zd (qg (zji (zf 2) (zf 4)) (zi (zp (zg uat hr.rmd (zb (zf 0) (zb (zg hself hr1 (zb (zf 0) (zb (zu (zf 3) (z0 T.uab)) (zb (zf 2) ze)))) (zb (zu (zf 3) (z0 T.uae)) (zb (zu (zf 3) (z0 T.uad)) ze))))))) zt) (zd (qg (zjj (zf 2) (zf 4)) (zi (zp (zg uat hr.rmd (zb (zf 0) (zb (zu (zf 3) (z0 T.uab)) (zb (zu (zf 3) (z0 T.uae)) (zb (zg hself hr1 (zb (zf 0) (zb (zu (zf 3) (z0 T.uad)) (zb (zab (zab (zf 2) (zf 4)) zm) ze)))) ze))))))) zt) (zi (zp (zg haux hr0 (zb (zf 0) (zb (zu (zf 3) (z0 T.uab)) (zb (zu (zf 3) (z0 T.uad)) ze))))))))))
theorem zcu(T:TX K mg base)(uat:Cal P w K mg base 6 "balanced" xq)(ubu:Cal P w K mg base 3 "parts" xy)(ub7:Cal P w K mg base 1 "size" kx)(ua0:Cal P w K mg base (7+40) "joined" (ya 40))(uam:Cal P w K mg base (2+40) "thing_at" (xn 40)):∀n:Nat,Cal P w K mg base (48+2*n) "taken_out" (xj n)
 |0=>T.ubx.none0 (ps:=["wood", "make", "place"]) (fun _ _ _ _ _ _=>ls3 fun _ _ _=>rfl)
 | n+1=>by have ih:=zcu T uat ubu ub7 ua0 uam n;exact(show Cal P w K mg base ((48+2*n+1)+1) "taken_out" (xj (n+1))from T.ubx.cal sc_taken_out (fun _ _ _ _ _ _=>ls3 fun _ _ _=>rfl) (fun f cdv A outer s H E hr=>zjp T uat ubu ub7 ih (zaq T ua0 uam ih) hr))
theorem sc_turned_part:FnScope ["wood", "make", "start", "end", "behind", "ahead", "begin"] ["wood", "make", "start", "end"] (zk s_turned_part):=.auto7
theorem sc__law_set:FnScope ["_law_script", "_law_first", "_law_wood", "_law_things", "_law_way", "_law_start", "_law_end", "_law_amid"] ["_law_script", "_law_first", "_law_wood", "_law_things"] (zk s__law_set):=.auto7
theorem sc__law_thing:FnScope ["_law_kind", "_law_cell_here", "_law_text", "_law_k"] ["_law_kind", "_law_cell_here"] (zk s__law_thing):=.auto7
theorem sc_check_place:FnScope ["place", "end"] ["place", "end"] (zk s_check_place):=.auto7
theorem sc_at:FnScope ["make", "place"] ["make", "place"] (zk s_at):=.auto7
theorem sc_is_alike_at:FnScope ["make", "place", "thing", "before"] ["make", "place", "thing", "before"] (zk s_is_alike_at):=.auto7
theorem sc_count_before:FnScope ["make", "turned", "thing", "before", "row"] ["make", "turned", "thing", "before"] (zk s_count_before):=.auto7
theorem sc_place_of:FnScope ["make", "thing", "before"] ["make", "thing", "before"] (zk s_place_of):=.auto7
theorem sc_has:FnScope ["make", "thing", "before"] ["make", "thing", "before"] (zk s_has):=.auto7
theorem sc_gather:FnScope ["make", "turned", "found", "row"] ["make", "turned", "found"] (zk s_gather):=.auto7
theorem sc_things_of:FnScope ["make", "found"] ["make"] (zk s_things_of):=.auto7
theorem sc_common:FnScope ["wood", "one", "other", "before"] ["wood", "one", "other", "before"] (zk s_common):=.auto7
theorem sc_merged:FnScope ["ones", "others", "before", "found", "reached", "thing"] ["ones", "others", "before"] (zk s_merged):=.auto7
theorem sc_either:FnScope ["wood", "one", "other", "before"] ["wood", "one", "other", "before"] (zk s_either):=.auto7
theorem sc_less:FnScope ["wood", "one", "other", "before"] ["wood", "one", "other", "before"] (zk s_less):=.auto7
theorem sc__law_told:FnScope ["_law_wood", "_law_word", "_law_first", "_law_second", "_law_kind", "_law_before"] ["_law_wood", "_law_word", "_law_first", "_law_second", "_law_kind"] (zk s__law_told):=.auto7
theorem sc_is_whole:FnScope ["value"] ["value"] (zk s_is_whole):=.auto7
theorem sc_has_form:FnScope ["make"] ["make"] (zk s_has_form):=.auto7
theorem sc_has_right_measures:FnScope ["make", "left", "right"] ["make"] (zk s_has_right_measures):=.auto7
theorem sc_has_right_sums:FnScope ["make", "add", "asked"] ["make", "add"] (zk s_has_right_sums):=.auto7
theorem sc_is_right:FnScope ["make", "add"] ["make", "add"] (zk s_is_right):=.auto7
theorem sc_law:FnScope ["_law_script", "_law_kind", "_law_add", "_law_sizes", "_law_one", "_law_some", "_law_k", "_law_other", "_law_wood", "_law_first", "_law_second", "_law_words", "_law_turn", "_law_makes", "_law_word", "_law_found"] ["_law_script"] (zk s_law):=.auto7
structure CX_law (P:Program) (w:World) (K:zFr) (mg:zMg) (base:Heap):Prop where
 mk ::
 uav:Mak P w K mg base 1 "Wood" jd
 ubc:Cal P w K mg base 1 "_law_bent" xk
 uaa:Cal P w K mg base 1 "_law_cell" zq
 ubi:Cal P w K mg base 6 "_law_due" y9
 ua3:Cal P w K mg base 2 "_law_of_wood" xb
 ua7:Cal P w K mg base 131 "_law_set" kg
 uaj:Cal P w K mg base 5 "_law_sorted" q9
 uas:Cal P w K mg base 1 "_law_thing" xr
 ubb:Cal P w K mg base 48 "_law_told" ym
 uaw:Cal P w K mg base (5+40) "is_right" (ke 40)
 uag:Cal P w K mg base 43 "things_of" qt
theorem z3w(T:TX K mg base)(C:CX_law P w K mg base){f:Addr}{cdv:Value}(hco:zck K mg "law" cdv){A:Around}{outer:List Env}{s:Shared}{H:Hp}{E:XK}(hr:Room 131 (A.deeper (envOfC "law" (zk s_law) s.heap.objs.size f cdv))) :
   FSs (zg4 CX0 P w K mg base ["_law_script", "_law_kind", "_law_add", "_law_sizes", "_law_one", "_law_some", "_law_k", "_law_other", "_law_wood", "_law_first", "_law_second", "_law_words", "_law_turn", "_law_makes", "_law_word", "_law_found"] "law" (zk s_law) f cdv A outer s H E).nox (j6 s_law) z1i:=by
 have nd:=sc_law.nd;exact(zd (zx 1 (jw (zg C.uaa hr.rmd (zb (zf 0) (zb zm ze))) zm) nd) (zd (zx 2 jm nd) (zd (qg (zt7 (zk8 (zjj (zf 1) zm) (zgi (kt hr (jw (zg C.uaa hr.rmd (zb (zf 0) (zb zm ze))) zm) zm)))) (zi (zx 2 (z0s 2 hco T.blt) nd)) zt) (zd (zx 3 (zd7 (zb (jw (zg C.uaa hr.rmd (zb (zf 0) (zb zm ze))) zm) (zb (jw (zg C.uaa hr.rmd (zb (zf 0) (zb zm ze))) zm) ze))) nd) (zd (qg (kt hr (jw (zg C.uaa hr.rmd (zb (zf 0) (zb zm ze))) zm) zm) (zi (zwi (zf 3) (jw (zg C.uaa hr.rmd (zb (zf 0) (zb zm ze))) zm) zm)) zt) (zd (zx 4 (zg C.uaj hr.rmd (zb (zf 1) (zb (by exact zjh (x6 (x:="_law_k") (N':=["_law_kind", "_law_script"]) (fr:=[1,0]) (by decide +kernel) rfl rfl rfl rfl rfl) (zx0 T.ubt (zu (zf 3) zm)) (fun _ _ _ _=>.nil) (fun _ _ _ _=>(zg C.uas hr.rmd (zb (zf 1) (zb (zg C.uaa hr.rmd (zb (zf 2) (zb (qq zm (zf 0)) ze))) ze))))) ze))) nd) (zd (by exact z0k 5 (x6 (x:="_law_k") (N':=["_law_kind", "_law_script"]) (fr:=[1,0]) (by decide +kernel) rfl rfl rfl rfl rfl) (zx0 T.ubt (zu (zf 3) zm)) (fun _ _ _ _=>.nil) (fun _ _ _ _=>(zg C.uas hr.rmd (zb (zf 1) (zb (zg C.uaa hr.rmd (zb (zf 2) (zb (qq zm (zf 0)) ze))) ze)))) nd) (zd (zpv 6 nd T.ubt (zas T.uao (zb (zf 4) ze)) (zi (qg (kt hr (jw (zg C.uaa hr.rmd (zb (zf 0) (zb (qq zm (zf 6)) ze))) zm) zm) (zi (za5 (z3m zo3 qbw PySem.F.type_list_insert zpm (zf 5) (zb zm (zb (zg C.ubc hr.rmd (zb (zf 1) (zb (zu (zf 4) (zf 6)) ze))) ze))))) zt)) z9i) (zd (zx 7 (zg C.uaj hr.rmd (zb (zf 1) (zb (zf 5) ze))) nd) (zd (zx 8 (zwo C.uav hr.rmd (zb (zf 2) ze)) nd) (zd (zx 9 (zg C.ua7 hr.rmd (zb (zf 0) (zb zm (zb (zf 8) (zb (zf 4) ze))))) nd) (zd (zx 10 (zg C.ua7 hr.rmd (zb (zf 0) (zb zm (zb (zf 8) (zb (zf 7) ze))))) nd) (zd (qg (kt hr (jw (zg C.uaa hr.rmd (zb (zf 0) (zb zm ze))) zm) zm) (zd (zx 7 (zf 4) nd) (zi (zx 10 (zf 9) nd))) zt) (zd (zx 11 (zp4 (zb zar (zb zar (zb zar (zb zar (zb zar ze)))))) nd) (zd (zx 12 (jw (zg C.uaa hr.rmd (zb (zf 0) (zb zm ze))) zm) nd) (zd (zx 13 (zd7 (zb (zf 9) (zb (zf 10) ze))) nd) (zd (zje 14 nd (qq (zbl (zf 11) (yz (zf 12)) (yz (qq (zf 12) zm))) (zbl (zf 11) zcr (yz zm))) (zd (zx 15 (zg C.ubb hr.rmd (zb (zf 8) (zb (zf 14) (zb (zf 9) (zb (zf 10) (zb (zf 1) ze)))))) nd) (zd (qg (zt7 (zpu (kr (j8 (zg C.uaw hr.rmd (zb (zf 15) (zb (zf 2) ze))))) (zk7 (zws hr (zg C.uag hr.rmd (zb (zf 15) ze)) (zg C.ubi hr.rmd (zb (zf 1) (zb (zf 14) (zb (zf 4) (zb (zf 7) ze))))))))) (zi (zp za6)) zt) (zi (zaa (zf 13) (zf 15))))) z9i) (zi (zp (zbs (zhv hr (zg C.uag hr.rmd (zb (zf 9) ze)) (zf 4)) (zbs (zhv hr (zg C.uag hr.rmd (zb (zf 10) ze)) (zf 7)) (zcw (zg C.ua3 hr.rmd (zb (zf 8) (zb (zf 13) ze)))))))))))))))))))))))))
theorem law_fn{P:Program}{w:World}{K:zFr}{mg:zMg}(T0:HasDef K mg "law" s_law 0)(C:∀base,zm5 base mg->TX K mg base/\CX_law P w K mg base):∃fa fd,mg "law"=some (.ref fa)/\(∀(s:Shared) (v:Value),BindsTo s fd ⟨[v],[]⟩ [("_law_script",v)])/\∀base,zm5 base mg->FnOk P w K mg base CX0 132 fa fd ["_law_script"] (spG K mg g_law):=by obtain⟨f,fd,dV,F,hm,rfl⟩:=T0.ex;have B:=F.binds0 (ps:=["_law_script"]) (fun _ _ _ _ _ _=>ls1 fun _=>rfl);refine⟨f,fd,hm,?_,fun base hB=>F.okL hm sc_law fun cdv co A outer s H E hr=>z3w (C base hB).1 (C base hB).2 co hr⟩;obtain⟨oc,od,kV,doc,pm,an,cdv,ct,osl,rfl,lk,hcd⟩:=F.ex;exact fun s v=>.of_eq rfl
theorem law_all{P:Program}{w:World}{K:zFr}{mg:zMg}(T:∀base,zm5 base mg->TX K mg base)(T0:HasDef K mg "law" s_law 0):∃fa fd,mg "law"=some (.ref fa)/\(∀(s:Shared) (v:Value),BindsTo s fd ⟨[v],[]⟩ [("_law_script",v)])/\∀base,zm5 base mg->FnOk P w K mg base CX0 132 fa fd ["_law_script"] (spG K mg g_law):=by
 refine law_fn T0 fun base hB=>?_;have T:=T base hB;have uav:Mak P w K mg base 1 "Wood" jd:=T.ucc.mk1 sc_Wood___init__ (fun _ _ _ _ _ _ _=>ls2 fun _ _=>⟨_,rfl,rfl⟩) (fun f cdv A outer s H E hr=>by
   have nd:=sc_Wood___init__.nd;exact(zd (zpw T.ubm (zf 0) (zf 1)) (zi (zpw T.uai (zf 0) zm))))
 have ubc:Cal P w K mg base 1 "_law_bent" xk:=(T.uef.cal sc__law_bent (fun _ _ _ _ _ _=>ls2 fun _ _=>rfl) (fun f cdv A outer s H E hr=>by as_aux_lemma=>
   have nd:=sc__law_bent.nd;exact(zd (qg (kt hr (zf 0) zm) (zi (zp (qq (zcg (zfe (zf 1) zm) zm) (jw (qq (zf 1) zm) zm)))) zt) (zd (qg (kt hr (zf 0) zm) (zi (zp (zab zm (zf 1)))) zt) (zd (qg (kt hr (zf 0) zm) (zi (zp (qq (zht (zf 1) zcr (yz zm)) zar))) zt) (zi (zp (zf 1))))))))
 have uaa:Cal P w K mg base 1 "_law_cell" zq:=(T.ud8.cal sc__law_cell (fun _ _ _ _ _ _=>ls2 fun _ _=>rfl) (fun f cdv A outer s H E hr=>by as_aux_lemma=>
   have nd:=sc__law_cell.nd;exact(zd (zx 2 (qq (zcg (zcg (zf 1) (zf 1)) zm) zm) nd) (zd (qg (zjj (zas T.uao (zb (zf 0) ze)) zm) (zi (zx 2 (qq (jw (zu (zf 0) (jw (zf 1) (zas T.uao (zb (zf 0) ze)))) (zla zm zm)) (zcg (zfe (zf 1) (zas T.uao (zb (zf 0) ze))) zm)) nd)) zt) (zi (zp (jw (zcg (jw (qq (zcg (zf 2) zm) (zcg (zf 1) zm)) zm) (qq (jw (zf 2) zm) zm)) zm)))))))
 have uay:Cal P w K mg base 1 "_law_key" ja:=(T.uey.cal sc__law_key (fun _ _ _ _ _ _=>ls2 fun _ _=>rfl) (fun f cdv A outer s H E hr=>by as_aux_lemma=>
   have nd:=sc__law_key.nd;exact(zd (qg (kt hr (zf 0) zm) (zi (zp (zab zm (zf 1)))) zt) (zd (qg (kt hr (zf 0) zm) (zi (zp (xu (zb (jw (zf 1) zm) (zb (zf 1) ze))))) zt) (zd (qg (kt hr (zf 0) zm) (zi (zp (zfe (zf 1) zm))) zt) (zd (qg (kt hr (zf 0) zm) (zi (zp (zt6 T.uf0 (zb (zf 1) ze)))) zt) (zd (qg (kt hr (zf 0) zm) (zi (zp (xu (zb (zas T.uao (zb (zf 1) ze)) (zb (zf 1) ze))))) zt) (zd (qg (kt hr (zf 0) zm) (zi (zp (zht (zf 1) zcr (yz zm)))) zt) (zi (zp (zf 1)))))))))))
 have uaz:Cal P w K mg base 2 "_law_alike" jl:=(T.udn.cal sc__law_alike (fun _ _ _ _ _ _=>ls3 fun _ _ _=>rfl) (fun f cdv A outer s H E hr=>by as_aux_lemma=>
   have nd:=sc__law_alike.nd;exact(zi (zp (z3k hr (by exact zjh (x6 (x:="_law_one") (N':=["_law_kind", "_law_thing_here"]) (fr:=[0,1]) (by decide +kernel) rfl rfl rfl rfl rfl) (zis (zf 2)) (fun _ _ _ _=>.one (kt hr (zg uay hr.rmd (zb (zf 1) (zb (zf 0) ze))) (zg uay hr.rmd (zb (zf 1) (zb (zf 2) ze))))) (fun _ _ _ _=>(zf 0))) (zp4 ze))))))
 have uaj:Cal P w K mg base 5 "_law_sorted" q9:=(T.udd.calL sc__law_sorted (fun _ _ _ _ _ _=>ls2 fun _ _=>rfl) (fun f cdv co A outer s H E hr=>by as_aux_lemma=>
   have nd:=sc__law_sorted.nd;exact(zd (zx 2 (zd7 ze) nd) (zd (z0l (zjb (eV 1)) (zje 3 nd (zf 1) (zi (qg (kr (j8 (zg uaz hr.rmd (zb (zf 0) (zb (zf 3) (zb (zf 2) ze)))))) (zi (zaa (zf 2) (zf 3))) zt)) z9i) (zwj 3 nd (zf 1) (zi (qg (kr (j8 (zg uaz hr.rmd (zb (zf 0) (zb (zf 3) (zb (zf 2) ze)))))) (zi (zaa (zf 2) (zf 3))) zt)) z9i)) (zi (zp (zsh (z4w T uay) (CapsOk.mk rfl rfl (z7r.mpr ⟨rfl,(fun _ h=>nomatch h)⟩) (by decide +kernel) rfl (z7r.mpr ⟨rfl,(fun _ h=>nomatch h)⟩) (fun _ _=>rfl)) hr.rmd (zf 2) (zy4 1 co T.blt rfl) T.ufk))))))).frz
 have ubi:Cal P w K mg base 6 "_law_due" y9:=(T.uev.cal sc__law_due (fun _ _ _ _ _ _=>ls4 fun _ _ _ _=>rfl) (fun f cdv A outer s H E hr=>by as_aux_lemma=>
   have nd:=sc__law_due.nd;exact(zd (qg (kt hr (zf 1) zar) (zi (zp (zg uaj hr.rmd (zb (zf 0) (zb (qq (zf 2) (zf 3)) ze))))) zt) (zd (qg (kt hr (zf 1) zar) (zi (zp (by exact zjh (x6 (x:="_law_thing_here") (N':=["_law_kind", "_law_other"]) (fr:=[0,3]) (by decide +kernel) rfl rfl rfl rfl rfl) (zis (zf 2)) (fun _ _ _ _=>.one (j8 (zg uaz hr.rmd (zb (zf 1) (zb (zf 0) (zb (zf 2) ze)))))) (fun _ _ _ _=>(zf 0))))) zt) (zi (zp (by exact zjh (x6 (x:="_law_thing_here") (N':=["_law_kind", "_law_other"]) (fr:=[0,3]) (by decide +kernel) rfl rfl rfl rfl rfl) (zis (zf 2)) (fun _ _ _ _=>.one (kr (j8 (zg uaz hr.rmd (zb (zf 1) (zb (zf 0) (zb (zf 2) ze))))))) (fun _ _ _ _=>(zf 0)))))))))
 have uel:Mth P w K mg base 1 "Wood" "made" kh:=T.uek.mth sc_Wood_made (fun _ _ _ _ _ _=>ls1 fun _=>rfl) (fun f cdv A outer s H E hr=>by
   have nd:=sc_Wood_made.nd;exact(zi (zp (zp6 T.uai (zf 0)))))
 have ua3:Cal P w K mg base 2 "_law_of_wood" xb:=(T.ucq.cal sc__law_of_wood (fun _ _ _ _ _ _=>ls2 fun _ _=>rfl) (fun f cdv A outer s H E hr=>by as_aux_lemma=>
   have nd:=sc__law_of_wood.nd;exact(zd (zx 2 zwn nd) (zd (by exact z0k 3 (x6 (x:="_law_make") (N':=[]) (fr:=[]) (by decide +kernel) rfl rfl rfl rfl rfl) (zis (zf 1)) (fun _ _ _ _=>.one (zbo (zf 0) jm)) (fun _ _ _ _=>(zf 0)) nd) (zd (zk9 5000 (z0w hr (zf 3) (zp4 ze)) (zd (zx 4 (z0p (zf 3)) nd) (zd (qg (zt7 (zpu (kr (j8 (zhu T.ual (zb (zu (zf 4) zm) (zb (zhx "int" T.ufy F.boot_int) ze))))) (zpu (zji (zu (zf 4) zm) zm) (zk7 (zwu (zu (zf 4) zm) (zsi uel hr.rmd (zf 0))))))) (zi (zp za6)) zt) (zi (qg (zsl hr (zu (zf 4) zm) (zf 2)) (zd (zwk hr (zf 2) (zu (zf 4) zm) (zf 4)) (zi (zx 3 (zwq (zf 3) (by exact zjh (x6 (x:="_law_below") (N':=[]) (fr:=[]) (by decide +kernel) rfl rfl rfl rfl rfl) (zis (xu (zb (zu (zf 4) zm) (zb (zu (zf 4) zm) ze)))) (fun _ _ _ _=>.one (zbo (zf 0) jm)) (fun _ _ _ _=>(zf 0)))) nd))) (zi (qg (zws hr (zwp hr (zf 2) (zu (zf 4) zm)) (zf 4)) (zi (zp za6)) zt)))))) z9i) (zi (zp za6))))))).frz
 have ua9:Mth P w K mg base 1 "Wood" "numbered" j5:=T.ucd.mth sc_Wood_numbered (fun _ _ _ _ _ _=>ls2 fun _ _=>rfl) (fun f cdv A outer s H E hr=>by
   have nd:=sc_Wood_numbered.nd;exact(zd (zx 2 (zp6 T.uai (zf 0)) nd) (zd (zpw T.uai (zf 0) (qq (zf 2) zm)) (zi (zp (qq (xu (zb (zf 2) ze)) (zf 1)))))))
 have udw:Cal P w K mg base 1 "back" zd5:=(T.ugk.cal sc_back (fun _ _ _ _ _ _=>ls1 fun _=>rfl) (fun f cdv A outer s H E hr=>by
   have nd:=sc_back.nd;exact(zd (qg (zd9 (zf 0) jm) (zi (zp jm)) zt) (zi (zp (zu (zf 0) (z0 T.udt)))))))
 have uaf:Cal P w K mg base 1 "height" jf:=(T.ufl.cal sc_height (fun _ _ _ _ _ _=>ls1 fun _=>rfl) (fun f cdv A outer s H E hr=>by
   have nd:=sc_height.nd;exact(zd (qg (zd9 (zf 0) jm) (zi (zp zm)) zt) (zi (zp (zu (zf 0) (z0 T.ub5)))))))
 have uak:Cal P w K mg base 1 "size" kx:=(T.ugh.cal sc_size (fun _ _ _ _ _ _=>ls1 fun _=>rfl) (fun f cdv A outer s H E hr=>by
   have nd:=sc_size.nd;exact(zd (qg (zd9 (zf 0) jm) (zi (zp zm)) zt) (zi (zp (zu (zf 0) (z0 T.udm)))))))
 have ucp:Cal P w K mg base 1 "total" zak:=(T.uf9.cal sc_total (fun _ _ _ _ _ _=>ls1 fun _=>rfl) (fun f cdv A outer s H E hr=>by
   have nd:=sc_total.nd;exact(zd (qg (zd9 (zf 0) jm) (zi (zp jm)) zt) (zi (zp (zu (zf 0) (z0 T.uco)))))))
 have uan:Mth P w K mg base 2 "Wood" "turned" qu:=T.uc9.mth sc_Wood_turned (fun _ _ _ _ _ _=>ls2 fun _ _=>rfl) (fun f cdv A outer s H E hr=>by as_aux_lemma=>
   have nd:=sc_Wood_turned.nd;exact(zd (qg (zd9 (zf 1) jm) (zi (zp jm)) zt) (zd (zx 2 (xu (zb (zu (zf 1) (z0 T.ua6)) (zb (zu (zf 1) (z0 T.ua8)) (zb (zu (zf 1) (z0 T.uaq)) ze)))) nd) (zi (zp (jp ua9 hr.rmd (zf 0) (zb (qq (qq (xu (zb (zp3 (zu (zf 1) (z0 T.ubg))) ze)) (zf 2)) (xu (zb (zg uak hr.rmd (zb (zf 1) ze)) (zb (zg uaf hr.rmd (zb (zf 1) ze)) (zb (zg udw hr.rmd (zb (zf 1) ze)) (zb (zg ucp hr.rmd (zb (zf 1) ze)) ze)))))) ze)))))))
 have ubo:Cal P w K mg base 1 "check_room" yq:=(T.ud4.cal sc_check_room (fun _ _ _ _ _ _=>ls1 fun _=>rfl) (fun f cdv A outer s H E hr=>by
   have nd:=sc_check_room.nd;exact(zi (qg (zjj (zf 0) (z0 T.udi)) (zi zda) zt))))
 have ubd:Cal P w K mg base 2 "height_above" xa:=(T.ucn.cal sc_height_above (fun _ _ _ _ _ _=>ls2 fun _ _=>rfl) (fun f cdv A outer s H E hr=>by
   have nd:=sc_height_above.nd;exact(zi (zp (qq zm (z0q T.ugo (zb (zg uaf hr.rmd (zb (zf 0) ze)) (zb (zg uaf hr.rmd (zb (zf 1) ze)) ze))))))))
 have uax:Cal P w K mg base 2 "in_balance" j0:=(T.ud3.cal sc_in_balance (fun _ _ _ _ _ _=>ls2 fun _ _=>rfl) (fun f cdv A outer s H E hr=>by
   have nd:=sc_in_balance.nd;exact(zi (zp (z3n (zt6 T.uf0 (zb (zab (zg uaf hr.rmd (zb (zf 0) ze)) (zg uaf hr.rmd (zb (zf 1) ze))) ze)) zm)))))
 have ubs:Cal P w K mg base 2 "size_above" ko:=(T.udz.cal sc_size_above (fun _ _ _ _ _ _=>ls2 fun _ _=>rfl) (fun f cdv A outer s H E hr=>by
   have nd:=sc_size_above.nd;exact(zi (zp (qq (qq (zg uak hr.rmd (zb (zf 0) ze)) zm) (zg uak hr.rmd (zb (zf 1) ze)))))))
 have hlt:∀t g,zer t=some g->LCal P w K mg base 1 t g:=by
   intro t g e;unfold zer at e;split at e
   · rename_i hx;cases e;subst hx;exact(z52 T).mono (by decide)
   cases e
 have hft:∀x g,ft x=some g->Cal P w K mg base 1 x g:=by intro x g e;unfold ft at e;cases e
 have ucu:Cal P w K mg base 2 "backward_sum" yx:=(T.uct.cal sc_backward_sum (fun _ _ _ _ _ _=>ls4 fun _ _ _ _=>rfl) (fun f cdv A outer s H E hr=>by as_aux_lemma=>
   have nd:=sc_backward_sum.nd;exact(zd (zx 4 (zf 2) nd) (zd (qg (zbo (zf 3) jm) (zi (zx 4 (zbn hft hlt hr.rmd (zf 0) (zb (zg udw hr.rmd (zb (zf 3) ze)) (zb (zf 4) ze))) nd)) zt) (zd (qg (zbo (zf 1) jm) (zi (zx 4 (zbn hft hlt hr.rmd (zf 0) (zb (zf 4) (zb (zg udw hr.rmd (zb (zf 1) ze)) ze))) nd)) zt) (zi (zp (zf 4))))))))
 have udx:Cal P w K mg base 2 "onward_sum" za4:=(T.ud6.cal sc_onward_sum (fun _ _ _ _ _ _=>ls4 fun _ _ _ _=>rfl) (fun f cdv A outer s H E hr=>by as_aux_lemma=>
   have nd:=sc_onward_sum.nd;exact(zd (zx 4 (zf 2) nd) (zd (qg (zbo (zf 1) jm) (zi (zx 4 (zbn hft hlt hr.rmd (zf 0) (zb (zg ucp hr.rmd (zb (zf 1) ze)) (zb (zf 4) ze))) nd)) zt) (zd (qg (zbo (zf 3) jm) (zi (zx 4 (zbn hft hlt hr.rmd (zf 0) (zb (zf 4) (zb (zg ucp hr.rmd (zb (zf 3) ze)) ze))) nd)) zt) (zi (zp (zf 4))))))))
 have ubp:Cal P w K mg base 3 "sums_above" xo:=(T.udv.cal sc_sums_above (fun _ _ _ _ _ _=>ls4 fun _ _ _ _=>rfl) (fun f cdv A outer s H E hr=>by as_aux_lemma=>
   have nd:=sc_sums_above.nd;exact(zd (qg (zd9 (zf 0) jm) (zi (zp (xu (zb jm (zb jm ze))))) zt) (zi (zp (xu (zb (zg udx hr.rmd (zb (zf 0) (zb (zf 1) (zb (zf 2) (zb (zf 3) ze))))) (zb (zg ucu hr.rmd (zb (zf 0) (zb (zf 1) (zb (zf 2) (zb (zf 3) ze))))) ze))))))))
 have uac:Mth P w K mg base 4 "Wood" "node" qk:=T.ud7.mth sc_Wood_node (fun _ _ _ _ _ _=>ls4 fun _ _ _ _=>rfl) (fun f cdv A outer s H E hr=>by as_aux_lemma=>
   have nd:=sc_Wood_node.nd;exact(zd (zx 4 (zg ubs hr.rmd (zb (zf 1) (zb (zf 3) ze))) nd) (zd (za5 (zg ubo hr.rmd (zb (zf 4) ze))) (zd (qg (kr (j8 (zg uax hr.rmd (zb (zf 1) (zb (zf 3) ze))))) (zi zda) zt) (zd (zx 5 (xu (zb (zf 4) (zb (zg ubd hr.rmd (zb (zf 1) (zb (zf 3) ze))) ze))) nd) (zd (zx 6 (zg ubp hr.rmd (zb (zp6 T.ubm (zf 0)) (zb (zf 1) (zb (zf 2) (zb (zf 3) ze))))) nd) (zi (zp (jp ua9 hr.rmd (zf 0) (zb (qq (qq (xu (zb za6 (zb (zf 1) (zb (zf 2) (zb (zf 3) ze))))) (zf 5)) (zf 6)) ze))))))))))
 have ucw:∀n:Nat,Cal P w K mg base (5+n) "built" (zgh n):=fun n=>by
   induction n with
   |zero=>exact T.uep.none0 (ps:=["wood", "things", "start", "end"]) (fun _ _ _ _ _ _=>ls4 fun _ _ _ _=>rfl)
   | succ n hself=>exact T.uep.cal sc_built (fun _ _ _ _ _ _=>ls4 fun _ _ _ _=>rfl) (fun f cdv A outer s H E hr0=>by as_aux_lemma=>
     have nd:=sc_built.nd;have hr:=hr0.mono (z63 5 n);exact(zd (qg (kt hr (zf 2) (zf 3)) (zi (zp jm)) zt) (zd (zx 4 (zfe (qq (zf 2) (zf 3)) zm) nd) (zd (zx 5 (zg hself hr0 (zb (zf 0) (zb (zf 1) (zb (zf 2) (zb (zf 4) ze))))) nd) (zd (zx 6 (zg hself hr0 (zb (zf 0) (zb (zf 1) (zb (qq (zf 4) zm) (zb (zf 3) ze))))) nd) (zi (zp (jp uac hr.rmd (zf 0) (zb (zf 5) (zb (zu (zf 1) (zf 4)) (zb (zf 6) ze)))))))))))
 have ucw:=ucw 40;have uar:Cal P w K mg base 46 "make_of" x3:=(T.ue2.cal sc_make_of (fun _ _ _ _ _ _=>ls2 fun _ _=>rfl) (fun f cdv A outer s H E hr=>by as_aux_lemma=>
   have nd:=sc_make_of.nd;exact(zd (za5 (zg ubo hr.rmd (zb (zas T.uao (zb (zf 1) ze)) ze))) (zi (zp (zg ucw hr.rmd (zb (zf 0) (zb (zf 1) (zb zm (zb (zas T.uao (zb (zf 1) ze)) ze))))))))))
 have ucf:Cal P w K mg base 2 "check_stretch" yk:=(T.ucj.cal sc_check_stretch (fun _ _ _ _ _ _=>ls3 fun _ _ _=>rfl) (fun f cdv A outer s H E hr=>by
   have nd:=sc_check_stretch.nd;exact(zi (qg (kr (zp7 zm (zf 1) (zf 2) (zg uak hr.rmd (zb (zf 0) ze)))) (zi zda) zt))))
 have uap:Cal P w K mg base 3 "parts" xy:=(T.uf1.cal sc_parts (fun _ _ _ _ _ _=>ls2 fun _ _=>rfl) (fun f cdv A outer s H E hr=>by as_aux_lemma=>
   have nd:=sc_parts.nd;exact(zd (qg (kr (j8 (zu (zf 1) (z0 T.ubg)))) (zi (zp (xu (zb (zu (zf 1) (z0 T.ua6)) (zb (zu (zf 1) (z0 T.ua8)) (zb (zu (zf 1) (z0 T.uaq)) ze)))))) zt) (zd (zx 2 (jp uan hr.rmd (zf 0) (zb (zu (zf 1) (z0 T.uaq)) ze)) nd) (zd (zx 3 (jp uan hr.rmd (zf 0) (zb (zu (zf 1) (z0 T.ua6)) ze)) nd) (zi (zp (xu (zb (zf 2) (zb (zu (zf 1) (z0 T.ua8)) (zb (zf 3) ze)))))))))))
 have uc1:Cal P w K mg base 5 "lifted_left" zal:=(T.uc5.cal sc_lifted_left (fun _ _ _ _ _ _=>ls4 fun _ _ _ _=>rfl) (fun f cdv A outer s H E hr=>by as_aux_lemma=>
   have nd:=sc_lifted_left.nd;exact(zd (zx 4 (zg uap hr.rmd (zb (zf 0) (zb (zf 1) ze))) nd) (zd (qg (zwu (zg uaf hr.rmd (zb (zu (zf 4) (z0 T.uab)) ze)) (zg uaf hr.rmd (zb (zu (zf 4) (z0 T.uad)) ze))) (zi (zp (jp uac hr.rmd (zf 0) (zb (zu (zf 4) (z0 T.uab)) (zb (zu (zf 4) (z0 T.uae)) (zb (jp uac hr.rmd (zf 0) (zb (zu (zf 4) (z0 T.uad)) (zb (zf 2) (zb (zf 3) ze)))) ze)))))) zt) (zd (zx 5 (zg uap hr.rmd (zb (zf 0) (zb (zu (zf 4) (z0 T.uad)) ze))) nd) (zd (zx 6 (jp uac hr.rmd (zf 0) (zb (zu (zf 4) (z0 T.uab)) (zb (zu (zf 4) (z0 T.uae)) (zb (zu (zf 5) (z0 T.uab)) ze)))) nd) (zd (zx 7 (jp uac hr.rmd (zf 0) (zb (zu (zf 5) (z0 T.uad)) (zb (zf 2) (zb (zf 3) ze)))) nd) (zi (zp (jp uac hr.rmd (zf 0) (zb (zf 6) (zb (zu (zf 5) (z0 T.uae)) (zb (zf 7) ze)))))))))))))
 have ucl:Cal P w K mg base 5 "lifted_right" yw:=(T.ucz.cal sc_lifted_right (fun _ _ _ _ _ _=>ls4 fun _ _ _ _=>rfl) (fun f cdv A outer s H E hr=>by as_aux_lemma=>
   have nd:=sc_lifted_right.nd;exact(zd (zx 4 (zg uap hr.rmd (zb (zf 0) (zb (zf 3) ze))) nd) (zd (qg (zwu (zg uaf hr.rmd (zb (zu (zf 4) (z0 T.uad)) ze)) (zg uaf hr.rmd (zb (zu (zf 4) (z0 T.uab)) ze))) (zi (zp (jp uac hr.rmd (zf 0) (zb (jp uac hr.rmd (zf 0) (zb (zf 1) (zb (zf 2) (zb (zu (zf 4) (z0 T.uab)) ze)))) (zb (zu (zf 4) (z0 T.uae)) (zb (zu (zf 4) (z0 T.uad)) ze)))))) zt) (zd (zx 5 (zg uap hr.rmd (zb (zf 0) (zb (zu (zf 4) (z0 T.uab)) ze))) nd) (zd (zx 6 (jp uac hr.rmd (zf 0) (zb (zf 1) (zb (zf 2) (zb (zu (zf 5) (z0 T.uab)) ze)))) nd) (zd (zx 7 (jp uac hr.rmd (zf 0) (zb (zu (zf 5) (z0 T.uad)) (zb (zu (zf 4) (z0 T.uae)) (zb (zu (zf 4) (z0 T.uad)) ze)))) nd) (zi (zp (jp uac hr.rmd (zf 0) (zb (zf 6) (zb (zu (zf 5) (z0 T.uae)) (zb (zf 7) ze)))))))))))))
 have ubh:Cal P w K mg base 6 "balanced" xq:=(T.ues.cal sc_balanced (fun _ _ _ _ _ _=>ls4 fun _ _ _ _=>rfl) (fun f cdv A outer s H E hr=>by as_aux_lemma=>
   have nd:=sc_balanced.nd;exact(zd (qg (j8 (zg uax hr.rmd (zb (zf 1) (zb (zf 3) ze)))) (zi (zp (jp uac hr.rmd (zf 0) (zb (zf 1) (zb (zf 2) (zb (zf 3) ze)))))) zt) (zd (qg (zjj (zg uaf hr.rmd (zb (zf 1) ze)) (zg uaf hr.rmd (zb (zf 3) ze))) (zi (zp (zg uc1 hr.rmd (zb (zf 0) (zb (zf 1) (zb (zf 2) (zb (zf 3) ze))))))) zt) (zi (zp (zg ucl hr.rmd (zb (zf 0) (zb (zf 1) (zb (zf 2) (zb (zf 3) ze)))))))))))
 have ua4:∀n:Nat,Cal P w K mg base (7+n) "joined" (ya n):=fun n=>by
   induction n with
   |zero=>exact T.uds.none0 (ps:=["wood", "left", "thing", "right"]) (fun _ _ _ _ _ _=>ls4 fun _ _ _ _=>rfl)
   | succ n hself=>exact T.uds.cal sc_joined (fun _ _ _ _ _ _=>ls4 fun _ _ _ _=>rfl) (fun f cdv A outer s H E hr0=>by as_aux_lemma=>
     have nd:=sc_joined.nd;have hr:=hr0.mono (z63 7 n);exact(zd (qg (j8 (zg uax hr.rmd (zb (zf 1) (zb (zf 3) ze)))) (zi (zp (jp uac hr.rmd (zf 0) (zb (zf 1) (zb (zf 2) (zb (zf 3) ze)))))) zt) (zd (qg (zjj (zg uaf hr.rmd (zb (zf 1) ze)) (zg uaf hr.rmd (zb (zf 3) ze))) (zd (zx 4 (zg uap hr.rmd (zb (zf 0) (zb (zf 1) ze))) nd) (zi (zp (zg ubh hr.rmd (zb (zf 0) (zb (zu (zf 4) (z0 T.uab)) (zb (zu (zf 4) (z0 T.uae)) (zb (zg hself hr0 (zb (zf 0) (zb (zu (zf 4) (z0 T.uad)) (zb (zf 2) (zb (zf 3) ze))))) ze)))))))) zt) (zd (zx 4 (zg uap hr.rmd (zb (zf 0) (zb (zf 3) ze))) nd) (zi (zp (zg ubh hr.rmd (zb (zf 0) (zb (zg hself hr0 (zb (zf 0) (zb (zf 1) (zb (zf 2) (zb (zu (zf 4) (z0 T.uab)) ze))))) (zb (zu (zf 4) (z0 T.uae)) (zb (zu (zf 4) (z0 T.uad)) ze)))))))))))
 have ua4:=ua4 40;have ua5:∀n:Nat,Cal P w K mg base (48+n) "cut_ahead" (yj n):=fun n=>by
   induction n with
   |zero=>exact T.ubw.none0 (ps:=["wood", "make", "place"]) (fun _ _ _ _ _ _=>ls3 fun _ _ _=>rfl)
   | succ n hself=>exact T.ubw.cal sc_cut_ahead (fun _ _ _ _ _ _=>ls3 fun _ _ _=>rfl) (fun f cdv A outer s H E hr0=>by as_aux_lemma=>
     have nd:=sc_cut_ahead.nd;have hr:=hr0.mono (z63 48 n);exact(zd (qg (kt hr (zf 2) zm) (zi (zp (xu (zb jm (zb (zf 1) ze))))) zt) (zd (qg (kt hr (zf 2) (zg uak hr.rmd (zb (zf 1) ze))) (zi (zp (xu (zb (zf 1) (zb jm ze))))) zt) (zd (zx 3 (zg uap hr.rmd (zb (zf 0) (zb (zf 1) ze))) nd) (zd (zx 4 (zg uak hr.rmd (zb (zu (zf 3) (z0 T.uab)) ze)) nd) (zd (qg (z3p (zf 2) (zf 4)) (zd (zx 5 (zg hself hr0 (zb (zf 0) (zb (zu (zf 3) (z0 T.uab)) (zb (zf 2) ze)))) nd) (zi (zp (xu (zb (zu (zf 5) zm) (zb (zg ua4 hr.rmd (zb (zf 0) (zb (zu (zf 5) zm) (zb (zu (zf 3) (z0 T.uae)) (zb (zu (zf 3) (z0 T.uad)) ze))))) ze)))))) zt) (zd (zx 5 (zg hself hr0 (zb (zf 0) (zb (zu (zf 3) (z0 T.uad)) (zb (zab (zab (zf 2) (zf 4)) zm) ze)))) nd) (zi (zp (xu (zb (zg ua4 hr.rmd (zb (zf 0) (zb (zu (zf 3) (z0 T.uab)) (zb (zu (zf 3) (z0 T.uae)) (zb (zu (zf 5) zm) ze))))) (zb (zu (zf 5) zm) ze))))))))))))
 have ua5:=ua5 40;have udk:Cal P w K mg base 1 "seen" zhs:=(T.ugf.cal sc_seen (fun _ _ _ _ _ _=>ls2 fun _ _=>rfl) (fun f cdv A outer s H E hr=>by as_aux_lemma=>
   have nd:=sc_seen.nd;exact(zd (qg (kt hr (zu (zf 0) (z0 T.ubg)) (zf 1)) (zi (zp (xu (zb (zu (zf 0) (z0 T.ua6)) (zb (zu (zf 0) (z0 T.ua8)) (zb (zu (zf 0) (z0 T.uaq)) (zb za6 ze))))))) zt) (zi (zp (xu (zb (zu (zf 0) (z0 T.uaq)) (zb (zu (zf 0) (z0 T.ua8)) (zb (zu (zf 0) (z0 T.ua6)) (zb za6 ze))))))))))
 have uau:∀n:Nat,Cal P w K mg base (2+n) "thing_at" (xn n):=fun n=>by
   induction n with
   |zero=>exact T.ub8.none0 (ps:=["make", "turned", "place"]) (fun _ _ _ _ _ _=>ls3 fun _ _ _=>rfl)
   | succ n hself=>exact T.ub8.cal sc_thing_at (fun _ _ _ _ _ _=>ls3 fun _ _ _=>rfl) (fun f cdv A outer s H E hr0=>by as_aux_lemma=>
     have nd:=sc_thing_at.nd;have hr:=hr0.mono (z63 2 n);exact(zd (zx 3 (zg udk hr.rmd (zb (zf 0) (zb (zf 1) ze))) nd) (zd (zx 4 (zg uak hr.rmd (zb (zu (zf 3) (z0 T.uab)) ze)) nd) (zd (qg (zji (zf 2) (zf 4)) (zi (zp (zg hself hr0 (zb (zu (zf 3) (z0 T.uab)) (zb (zu (zf 3) (z0 T.ua1)) (zb (zf 2) ze)))))) zt) (zd (qg (zjj (zf 2) (zf 4)) (zi (zp (zg hself hr0 (zb (zu (zf 3) (z0 T.uad)) (zb (zu (zf 3) (z0 T.ua1)) (zb (zab (zab (zf 2) (zf 4)) zm) ze)))))) zt) (zi (zp (zu (zf 3) (z0 T.uae)))))))))
 have uau:=uau 40;have uec:=zcu (P:=P) (w:=w) (base:=base) T ubh uap uak ua4 uau 40;have uba:=zaq (P:=P) (w:=w) (base:=base) T ua4 uau uec;have uc2:Cal P w K mg base 130 "turned_part" zaj:=(T.udj.cal sc_turned_part (fun _ _ _ _ _ _=>ls4 fun _ _ _ _=>rfl) (fun f cdv A outer s H E hr=>by as_aux_lemma=>
   have nd:=sc_turned_part.nd;exact(zd (za5 (zg ucf hr.rmd (zb (zf 1) (zb (zf 2) (zb (zf 3) ze))))) (zd (zx 4 (zg ua5 hr.rmd (zb (zf 0) (zb (zf 1) (zb (zf 3) ze)))) nd) (zd (zx 5 (zg ua5 hr.rmd (zb (zf 0) (zb (zu (zf 4) zm) (zb (zf 2) ze)))) nd) (zd (zx 6 (zg uba hr.rmd (zb (zf 0) (zb (zu (zf 5) zm) (zb (jp uan hr.rmd (zf 0) (zb (zu (zf 5) zm) ze)) ze)))) nd) (zi (zp (zg uba hr.rmd (zb (zf 0) (zb (zf 6) (zb (zu (zf 4) zm) ze))))))))))))
 have ua7:Cal P w K mg base 131 "_law_set" kg:=(T.uet.cal sc__law_set (fun _ _ _ _ _ _=>ls4 fun _ _ _ _=>rfl) (fun f cdv A outer s H E hr=>by as_aux_lemma=>
   have nd:=sc__law_set.nd;exact(zd (zx 4 (jw (zg uaa hr.rmd (zb (zf 0) (zb (zf 1) ze))) zm) nd) (zd (qg (kt hr (zf 4) zm) (zi (zp (zg uar hr.rmd (zb (zf 2) (zb (zsj T.udu (zb (zf 3) ze)) ze))))) zt) (zd (qg (kt hr (zf 4) zm) (zi (zp (jp uan hr.rmd (zf 2) (zb (zg uar hr.rmd (zb (zf 2) (zb (zfd T.udu T.uca (zf 3)) ze))) ze)))) zt) (zd (zx 5 (jw (zg uaa hr.rmd (zb (zf 0) (zb (qq (zf 1) zm) ze))) (qq (zas T.uao (zb (zf 3) ze)) zm)) nd) (zd (zx 6 (qq (zf 5) (jw (zg uaa hr.rmd (zb (zf 0) (zb (qq (zf 1) zm) ze))) (zab (qq (zas T.uao (zb (zf 3) ze)) zm) (zf 5)))) nd) (zd (zx 7 (zfd T.udu T.uca (zbl (zf 3) (yz (zf 5)) (yz (zf 6)))) nd) (zi (zp (zg uc2 hr.rmd (zb (zf 2) (zb (zg uar hr.rmd (zb (zf 2) (zb (qq (qq (zbl (zf 3) zcr (yz (zf 5))) (zf 7)) (zbl (zf 3) (yz (zf 6)) zcr)) ze))) (zb (zf 5) (zb (zf 6) ze)))))))))))))))
 have uas:Cal P w K mg base 1 "_law_thing" xr:=(T.udo.cal sc__law_thing (fun _ _ _ _ _ _=>ls2 fun _ _=>rfl) (fun f cdv A outer s H E hr=>by as_aux_lemma=>
   have nd:=sc__law_thing.nd;exact(zd (qg (zt7 (zk8 (zji (zf 0) zm) (zgi (kt hr (jw (zf 1) zm) zm)))) (zi (zp (zab (qq (jw (zcg (qq (zf 1) zm) (zla zm zm)) (zab (zcg zm (zla zm zm)) zm)) zm) (zla zm zm)))) zt) (zd (qg (zji (zf 0) zm) (zi (zp (zab (jw (zfe (zf 1) zm) zm) zm))) zt) (zd (zx 2 zar nd) (zd (zpv 3 nd T.ubt (qq zm (jw (zf 1) zm)) (zi (zx 2 (qq (zf 2) (zu zar (jw (zfe (zf 1) (zu (xu (zb zm (zb zm (zb zm (zb zm (zb zm (zb zm (zb zm (zb zm ze))))))))) (zf 3))) zm))) nd)) z9i) (zi (zp (zf 2)))))))))
 have uc7:Cal P w K mg base 1 "check_place" zan:=(T.uc4.cal sc_check_place (fun _ _ _ _ _ _=>ls2 fun _ _=>rfl) (fun f cdv A outer s H E hr=>by
   have nd:=sc_check_place.nd;exact(zi (qg (kr (zwt zm (zf 0) (zf 1))) (zi zda) zt))))
 have ugq:Cal P w K mg base 43 "at" z3h:=(T.ugr.cal sc_at (fun _ _ _ _ _ _=>ls2 fun _ _=>rfl) (fun f cdv A outer s H E hr=>by as_aux_lemma=>
   have nd:=sc_at.nd;exact(zd (za5 (zg uc7 hr.rmd (zb (zf 1) (zb (zg uak hr.rmd (zb (zf 0) ze)) ze)))) (zi (zp (zg uau hr.rmd (zb (zf 0) (zb za6 (zb (zf 1) ze)))))))))
 have hct:∀t g,zmr t=some g->CCal P w K mg base 2 t g:=by
   intro t g e;unfold zmr at e;split at e
   · rename_i hx;cases e;subst hx;exact(z4w T uay).mono (by decide)
   split at e
   · rename_i hx;cases e;subst hx;exact(z53 T uay).mono (by decide)
   cases e
 have udb:Cal P w K mg base 44 "is_alike_at" zam:=(T.udh.cal sc_is_alike_at (fun _ _ _ _ _ _=>ls4 fun _ _ _ _=>rfl) (fun f cdv A outer s H E hr=>by as_aux_lemma=>
   have nd:=sc_is_alike_at.nd;exact(zi (zp (zbs (z3l (zf 1) (zg uak hr.rmd (zb (zf 0) ze))) (zcw (zp3 (zdc (fun x g e=>(hft x g e).mono (by decide)) (fun t g e=>(hlt t g e).mono (by decide)) hct hr.rmd (zf 3) (zb (zf 2) (zb (zg ugq hr.rmd (zb (zf 0) (zb (zf 1) ze))) ze))))))))))
 have ua2:∀n:Nat,Cal P w K mg base (3+n) "count_before" (kj n):=fun n=>by
   induction n with
   |zero=>exact T.ubf.none0 (ps:=["make", "turned", "thing", "before"]) (fun _ _ _ _ _ _=>ls4 fun _ _ _ _=>rfl)
   | succ n hself=>exact T.ubf.cal sc_count_before (fun _ _ _ _ _ _=>ls4 fun _ _ _ _=>rfl) (fun f cdv A outer s H E hr0=>by as_aux_lemma=>
     have nd:=sc_count_before.nd;have hr:=hr0.mono (z63 3 n);exact(zd (qg (zd9 (zf 0) jm) (zi (zp zm)) zt) (zd (zx 4 (zg udk hr.rmd (zb (zf 0) (zb (zf 1) ze))) nd) (zd (qg (j8 (zdc (fun x g e=>(hft x g e).mono (by decide)) (fun t g e=>(hlt t g e).mono (by decide)) hct hr.rmd (zf 3) (zb (zu (zf 4) (z0 T.uae)) (zb (zf 2) ze)))) (zi (zp (qq (qq (zg uak hr.rmd (zb (zu (zf 4) (z0 T.uab)) ze)) zm) (zg hself hr0 (zb (zu (zf 4) (z0 T.uad)) (zb (zu (zf 4) (z0 T.ua1)) (zb (zf 2) (zb (zf 3) ze)))))))) zt) (zi (zp (zg hself hr0 (zb (zu (zf 4) (z0 T.uab)) (zb (zu (zf 4) (z0 T.ua1)) (zb (zf 2) (zb (zf 3) ze)))))))))))
 have ua2:=ua2 40;have uez:Cal P w K mg base 44 "place_of" zcp:=(T.uex.cal sc_place_of (fun _ _ _ _ _ _=>ls3 fun _ _ _=>rfl) (fun f cdv A outer s H E hr=>by
   have nd:=sc_place_of.nd;exact(zi (zp (zg ua2 hr.rmd (zb (zf 0) (zb za6 (zb (zf 1) (zb (zf 2) ze)))))))))
 have ufz:Cal P w K mg base 45 "has" zsf:=(T.ugn.cal sc_has (fun _ _ _ _ _ _=>ls3 fun _ _ _=>rfl) (fun f cdv A outer s H E hr=>by as_aux_lemma=>
   have nd:=sc_has.nd;exact(zi (zp (zg udb hr.rmd (zb (zf 0) (zb (zg uez hr.rmd (zb (zf 0) (zb (zf 1) (zb (zf 2) ze)))) (zb (zf 1) (zb (zf 2) ze)))))))))
 have ub2:∀n:Nat,Cal P w K mg base (2+n) "gather" (zc9 n):=fun n=>by
   induction n with
   |zero=>exact T.ud2.none0 (ps:=["make", "turned", "found"]) (fun _ _ _ _ _ _=>ls3 fun _ _ _=>rfl)
   | succ n hself=>exact T.ud2.cal sc_gather (fun _ _ _ _ _ _=>ls3 fun _ _ _=>rfl) (fun f cdv A outer s H E hr0=>by as_aux_lemma=>
     have nd:=sc_gather.nd;have hr:=hr0.mono (z63 2 n);exact(zd (qg (zd9 (zf 0) jm) (zi zwh) zt) (zd (zx 3 (zg udk hr.rmd (zb (zf 0) (zb (zf 1) ze))) nd) (zd (za5 (zg hself hr0 (zb (zu (zf 3) (z0 T.uab)) (zb (zu (zf 3) (z0 T.ua1)) (zb (zf 2) ze))))) (zd (zaa (zf 2) (zu (zf 3) (z0 T.uae))) (zi (za5 (zg hself hr0 (zb (zu (zf 3) (z0 T.uad)) (zb (zu (zf 3) (z0 T.ua1)) (zb (zf 2) ze)))))))))))
 have ub2:=ub2 40;have uag:Cal P w K mg base 43 "things_of" qt:=(T.uej.cal sc_things_of (fun _ _ _ _ _ _=>ls1 fun _=>rfl) (fun f cdv A outer s H E hr=>by
   have nd:=sc_things_of.nd;exact(zd (zx 1 (zd7 ze) nd) (zd (za5 (zg ub2 hr.rmd (zb (zf 0) (zb za6 (zb (zf 1) ze))))) (zi (zp (zf 1))))))).frz
 have uft:Cal P w K mg base 47 "common" zgg:=(T.ufh.cal sc_common (fun _ _ _ _ _ _=>ls4 fun _ _ _ _=>rfl) (fun f cdv A outer s H E hr=>by as_aux_lemma=>
   have nd:=sc_common.nd;exact(zi (zp (zg uar hr.rmd (zb (zf 0) (zb (by exact zjh (x6 (x:="thing") (N':=["before", "other"]) (fr:=[3,2]) (by decide +kernel) rfl rfl rfl rfl rfl) (zis (zg uag hr.rmd (zb (zf 1) ze))) (fun _ _ _ _=>.one (j8 (zg ufz hr.rmd (zb (zf 2) (zb (zf 0) (zb (zf 1) ze)))))) (fun _ _ _ _=>(zf 0))) ze)))))))
 have ufj:Cal P w K mg base 3 "merged" zge:=(T.ufm.cal sc_merged (fun _ _ _ _ _ _=>ls3 fun _ _ _=>rfl) (fun f cdv A outer s H E hr=>by as_aux_lemma=>
   have nd:=sc_merged.nd;exact(zd (zx 3 (zd7 ze) nd) (zd (zx 4 zm nd) (zd (zje 5 nd (zf 0) (zd (zk9 5000 (zt7 (zk8 (zji (zf 4) (zas T.uao (zb (zf 1) ze))) (zgi (j8 (zdc (fun x g e=>(hft x g e).mono (by decide)) (fun t g e=>(hlt t g e).mono (by decide)) hct hr.rmd (zf 2) (zb (zu (zf 1) (zf 4)) (zb (zf 5) ze))))))) (zd (zaa (zf 3) (zu (zf 1) (zf 4))) (zi (zx 4 (qq (zf 4) zm) nd))) z9i) (zd (zaa (zf 3) (zf 5)) (zi (qg (zt7 (zk8 (zji (zf 4) (zas T.uao (zb (zf 1) ze))) (zgi (kr (j8 (zdc (fun x g e=>(hft x g e).mono (by decide)) (fun t g e=>(hlt t g e).mono (by decide)) hct hr.rmd (zf 2) (zb (zf 5) (zb (zu (zf 1) (zf 4)) ze)))))))) (zi (zx 4 (qq (zf 4) zm) nd)) zt)))) z9i) (zi (zp (zwr (zf 3) (zbl (zf 1) (yz (zf 4)) zcr))))))))).frz
 have ufu:Cal P w K mg base 47 "either" zgf:=(T.ufo.cal sc_either (fun _ _ _ _ _ _=>ls4 fun _ _ _ _=>rfl) (fun f cdv A outer s H E hr=>by as_aux_lemma=>
   have nd:=sc_either.nd;exact(zi (zp (zg uar hr.rmd (zb (zf 0) (zb (zg ufj hr.rmd (zb (zg uag hr.rmd (zb (zf 1) ze)) (zb (zg uag hr.rmd (zb (zf 2) ze)) (zb (zf 3) ze)))) ze)))))))
 have ugi:Cal P w K mg base 47 "less" zps:=(T.uge.cal sc_less (fun _ _ _ _ _ _=>ls4 fun _ _ _ _=>rfl) (fun f cdv A outer s H E hr=>by as_aux_lemma=>
   have nd:=sc_less.nd;exact(zi (zp (zg uar hr.rmd (zb (zf 0) (zb (by exact zjh (x6 (x:="thing") (N':=["before", "other"]) (fr:=[3,2]) (by decide +kernel) rfl rfl rfl rfl rfl) (zis (zg uag hr.rmd (zb (zf 1) ze))) (fun _ _ _ _=>.one (kr (j8 (zg ufz hr.rmd (zb (zf 2) (zb (zf 0) (zb (zf 1) ze))))))) (fun _ _ _ _=>(zf 0))) ze)))))))
 have ubb:Cal P w K mg base 48 "_law_told" ym:=(T.ueo.calA sc__law_told (fun _ _ _ _ _ _=>ls5 fun _ _ _ _ _=>rfl) (fun f cdv co A outer s H E hr=>by as_aux_lemma=>
   have nd:=sc__law_told.nd;apply Exists.intro;exact(zd (zx 5 (zp5 0 co T.blt rfl) nd) (zd (qg (kt hr (zf 1) zar) (zi (zp (by exact(zgk ufu (CapsOk.mk rfl rfl (z7r.mpr ⟨rfl,(fun _ h=>nomatch h)⟩) (by decide +kernel) rfl (z7r.mpr ⟨rfl,(fun _ h=>nomatch h)⟩) (fun _ _=>rfl)) hr.rmd (yb (zf 0) (yb (zf 2) (yb (zf 3) (zgl (zf 5))))))))) zt) (zd (qg (kt hr (zf 1) zar) (zi (zp (by exact(zgk uft (CapsOk.mk rfl rfl (z7r.mpr ⟨rfl,(fun _ h=>nomatch h)⟩) (by decide +kernel) rfl (z7r.mpr ⟨rfl,(fun _ h=>nomatch h)⟩) (fun _ _=>rfl)) hr.rmd (yb (zf 0) (yb (zf 2) (yb (zf 3) (zgl (zf 5))))))))) zt) (zi (zp (by exact(zgk ugi (CapsOk.mk rfl rfl (z7r.mpr ⟨rfl,(fun _ h=>nomatch h)⟩) (by decide +kernel) rfl (z7r.mpr ⟨rfl,(fun _ h=>nomatch h)⟩) (fun _ _=>rfl)) hr.rmd (yb (zf 0) (yb (zf 2) (yb (zf 3) (zgl (zf 5))))))))))))))
 have ubl:Cal P w K mg base 1 "is_whole" zbk:=(T.ueu.cal sc_is_whole (fun _ _ _ _ _ _=>ls1 fun _=>rfl) (fun f cdv A outer s H E hr=>by as_aux_lemma=>
   have nd:=sc_is_whole.nd;exact(zi (zp (zbs (zhu T.ual (zb (zf 0) (zb (zhx "int" T.ufy F.boot_int) ze))) (zcw (zp3 (zhu T.ual (zb (zf 0) (zb (zhx "bool" T.ue4 F.boot_bool) ze))))))))))
 have uew:Cal P w K mg base 2 "has_form" zcq:=(T.uer.cal sc_has_form (fun _ _ _ _ _ _=>ls1 fun _=>rfl) (fun f cdv A outer s H E hr=>by as_aux_lemma=>
   have nd:=sc_has_form.nd;exact(zd (qg (zt7 (zpu (kr (j8 (zhu T.ual (zb (zf 0) (zb (zhx "tuple" T.ugc F.boot_tuple) ze))))) (zk7 (zws hr (zas T.uao (zb (zf 0) ze)) (z0 T.ubr))))) (zi (zp za6)) zt) (zd (qg (kr (j8 (zhu T.ual (zb (zu (zf 0) (z0 T.ubg)) (zb (zhx "bool" T.ue4 F.boot_bool) ze))))) (zi (zp za6)) zt) (zi (zp (zbs (zg ubl hr.rmd (zb (zu (zf 0) (z0 T.ufn)) ze)) (zbs (zg ubl hr.rmd (zb (zu (zf 0) (z0 T.udm)) ze)) (zcw (zg ubl hr.rmd (zb (zu (zf 0) (z0 T.ub5)) ze)))))))))))
 have ubk:Cal P w K mg base 3 "has_right_measures" jg:=(T.ubj.cal sc_has_right_measures (fun _ _ _ _ _ _=>ls1 fun _=>rfl) (fun f cdv A outer s H E hr=>by as_aux_lemma=>
   have nd:=sc_has_right_measures.nd;exact(zd (zx 1 (zu (zf 0) (z0 T.ua6)) nd) (zd (zx 2 (zu (zf 0) (z0 T.uaq)) nd) (zd (qg (kr (j8 (zg uax hr.rmd (zb (zf 1) (zb (zf 2) ze))))) (zi (zp za6)) zt) (zi (zp (zbs (zhv hr (zu (zf 0) (z0 T.udm)) (zg ubs hr.rmd (zb (zf 1) (zb (zf 2) ze)))) (zcw (zhv hr (zu (zf 0) (z0 T.ub5)) (zg ubd hr.rmd (zb (zf 1) (zb (zf 2) ze)))))))))))))
 have ub3:Cal P w K mg base 4 "has_right_sums" jt:=(T.ubz.cal sc_has_right_sums (fun _ _ _ _ _ _=>ls2 fun _ _=>rfl) (fun f cdv A outer s H E hr=>by as_aux_lemma=>
   have nd:=sc_has_right_sums.nd;exact(zd (zx 2 (zg ubp hr.rmd (zb (zf 1) (zb (zu (zf 0) (z0 T.ua6)) (zb (zu (zf 0) (z0 T.ua8)) (zb (zu (zf 0) (z0 T.uaq)) ze))))) nd) (zd (qg (j8 (zu (zf 0) (z0 T.ubg))) (zi (zp (zbs (zhv hr (zu (zf 0) (z0 T.uco)) (zu (zf 2) zm)) (zcw (zhv hr (zu (zf 0) (z0 T.udt)) (zu (zf 2) zm)))))) zt) (zi (zp (zbs (zhv hr (zu (zf 0) (z0 T.uco)) (zu (zf 2) zm)) (zcw (zhv hr (zu (zf 0) (z0 T.udt)) (zu (zf 2) zm))))))))))
 have uaw:∀n:Nat,Cal P w K mg base (5+n) "is_right" (ke n):=fun n=>by
   induction n with
   |zero=>exact T.ucg.none1 (ps:=["make", "add"]) (fun _ _ _ _ _ _ _=>ls2 fun _ _=>⟨_,rfl,rfl⟩)
   | succ n hself=>exact T.ucg.cal1 sc_is_right (fun _ _ _ _ _ _ _=>ls2 fun _ _=>⟨_,rfl,rfl⟩) (fun f cdv A outer s H E hr0=>by as_aux_lemma=>
     have nd:=sc_is_right.nd;have hr:=hr0.mono (z63 5 n);exact(zd (qg (zd9 (zf 0) jm) (zi (zp za6)) zt) (zd (qg (kr (j8 (zg uew hr.rmd (zb (zf 0) ze)))) (zi (zp za6)) zt) (zd (qg (zt7 (zpu (kr (j8 (zg hself hr0 (zb (zu (zf 0) (z0 T.ua6)) (zb (zf 1) ze))))) (zk7 (kr (j8 (zg hself hr0 (zb (zu (zf 0) (z0 T.uaq)) (zb (zf 1) ze)))))))) (zi (zp za6)) zt) (zi (zp (zbs (zg ubk hr.rmd (zb (zf 0) ze)) (zcw (zg ub3 hr.rmd (zb (zf 0) (zb (zf 1) ze)))))))))))
 have uaw:=uaw 40;exact⟨T,⟨uav,ubc,uaa,ubi,ua3,ua7,uaj,uas,ubb,uaw,uag⟩⟩
end Pg
open PySem PySem.W L2 F PySem.Spec PyProof.Rows
namespace PySem.W.Fast
def tw14413413059813416143:=()
def tw232738847518518563:=()
def tw18222795563495870932:=()
def tw14041135112311150139:=()
def tw13445014289671994846:=()
def tw4334231136752120089:=()
def tw1878475276469990365:=()
def tw14770185465454770583:=()
def tw15075426309069602256:=()
def tw12893975731521837964:=()
def tw12717119072750549368:=()
def tw16723112215935717507:=()
def tw4884924123202039923:=()
def tw7267386854111952817:=()
def tw1754017807530678785:=()
def tw13026658373907476948:=()
def tw2518151638214431496:=()
def tw3469860716678929649:=()
def tw18203863968984440464:=()
def tw10757238578558155832:=()
def tw1753858128557793321:=()
def tw2445136060826920992:=()
def tw15059248342649454998:=()
def tw6662089760406560668:=()
def tw10225102374066682578:=()
def tw9101923061094638303:=()
def tw12249648272703000355:=()
def tw11545046560865154230:=()
def tw14247414390664242914:=()
def tw3477078275529590885:=()
def tw11094794459550214629:=()
def tw6041916895551584494:=()
def tw5915367164400284345:=()
def tw12469114616582930907:=()
def tw13455533858397396415:=()
def tw16280581709087262094:=()
def tw1927199373241620039:=()
def tw17176734028754772952:=()
def tw11558526159896834184:=()
def tw3380716334216030698:=()
def tw1680111546425148456:=()
def tw8253191379450725169:=()
def tw8050887151856983926:=()
def tw13634060503315507982:=()
def tw11379482421385570979:=()
def tw359134303854210453:=()
def tw11150725770483032230:=()
def tw10681885156478598368:=()
def tw10589737301259344284:=()
def tw10734812186430183575:=()
def tw5785403036434061392:=()
def tw13308948039613134869:=()
def tw3102157974086890665:=()
def tw707345348447560656:=()
def tw9671252551692965882:=()
def tw11628490821171166463:=()
def tw11773884257451978751:=()
def tw6025542507607666559:=()
def tw15956350730659111378:=()
def tw7955476916373367388:=()
def tw13104361312613112258:=()
def tw12113202213740742169:=()
def tw5689295617227949765:=()
def tw1465450569598842031:=()
def tw15977821077137765719:=()
def tw9738352987292722163:=()
def tw4873034704904355607:=()
def tw2112925455126062527:=()
def tw17401503598769223667:=()
def tw18138175288160084613:=()
def tw3921302674837608543:=()
def tw18081774991051299158:=()
def tw2640998676327638697:=()
def tw64904238725187098:=()
def tw18337783880315915626:=()
def tw16189414205717210863:=()
def tw11772387536490686081:=()
def tw50464711378997882:=()
def tw13909123115743147573:=()
def tw4719646528650564084:=()
def tw8703623801599642252:=()
def tw10284030457108935450:=()
def tw2762932809685924845:=()
def tw6459355810678807342:=()
def tw3662838107397041371:=()
def tw13235875454266316282:=()
def tw16119438531512962243:=()
def tw10523059026136311034:=()
def tw3722606968527122875:=()
def tw8452899748048924209:=()
def tw7544059175571434395:=()
def tw9787175403080595571:=()
def tw2553796236135813379:=()
def tw2669661188643736960:=()
def tw14255269385321306757:=()
def tw8113770877014990579:=()
def tw13084182879178456256:=()
def tw5997657429588369893:=()
def tw8906856674227057544:=()
def tw5835567312083537607:=()
def tw2017489833572481061:=()
def tw4858750712968410112:=()
def tw1661454021180536558:=()
def tw9982331097315750650:=()
def tw16052010843264600130:=()
def tw15452911412894388508:=()
def tw12415659665994203267:=()
def tw851935082845596159:=()
def tw5430328821470922849:=()
def tw8343272569072303516:=()
def tw3877497236388762350:=()
def tw8115156306523085547:=()
def tw10356833300433406639:=()
def tw1005201697564676488:=()
def tw11503224675814912552:=()
def tw6664320360652661006:=()
def tw9412419450707763347:=()
def tw658385450034399161:=()
def tw9034441111715299688:=()
def tw13978980302250908478:=()
def tw3019586233009657118:=()
def tw18305913959767141341:=()
def tw2722576569624652830:=()
def tw1182103511435740127:=()
def tw3394492940354182068:=()
def tw14002263999453636415:=()
def tw9312396636424378757:=()
def tw12482471920538161550:=()
def tw10107220575301335238:=()
def tw16852917955322117086:=()
def tw6815019468133953600:=()
def tw1574971408144663440:=()
def tw13449840903373668516:=()
def tw13866064515329263650:=()
def tw3391085949084005673:=()
def tw1915862234676353081:=()
def tw15945930910615242362:=()
def tw6800896349468917734:=()
def tw11985635134541527925:=()
def tw15379644278293563379:=()
def tw6124973252348528492:=()
def tw4193141665827533425:=()
def tw18173446431456484578:=()
def tw140054654788504588:=()
def tw1253260850940057974:=()
def tw16617073326031234383:=()
def tw15183501858245045515:=()
def tw1143397829788526781:=()
def tw4625144026939917363:=()
def tw2546453263166586066:=()
def tw16338651177870652297:=()
def tw5793669390165516704:=()
def tw11963415889835142976:=()
def tw5478588446962012800:=()
def tw6306685213552180983:=()
def tw11104324493875103863:=()
def tw7203418174464016110:=()
def tw2679499488170420369:=()
def tw11450880002836834448:=()
def tw13580825435713321158:=()
def tw6102860822055781218:=()
def tw565043433150608591:=()
def tw3732724361313160165:=()
def tw7267671350979526738:=()
def tw11631215072758863082:=()
def tw7470317801969282542:=()
def tw10043054402272041534:=()
def tw16396355475874709587:=()
def tw1322107346706654672:=()
def tw742463942039561655:=()
def tw8178695441713754897:=()
def tw12742038811494687747:=()
def tw8985981732941302191:=()
def tw2254711788537973818:=()
def tw12366733948242168166:=()
def tw12965004670620798102:=()
def tw16609592625517034196:=()
def tw6041961093961828:=()
def tw6107145730645935242:=()
def tw3725697540169256045:=()
def tw10681969940498765248:=()
def tw5655272479890677863:=()
def tw4207018901084382130:=()
def tw15325055624898662132:=()
def tw2446684418381312561:=()
def tw9247620412197600117:=()
def tw10895747498272399204:=()
def tw9969244811386010543:=()
def tw11623584271453246475:=()
def tw2323952894410494081:=()
def tw5421601282352523128:=()
def tw13886876485777346889:=()
def tw11228834889128945411:=()
def tw6709940327651816761:=()
def tw11440216405833452800:=()
def tw6607428150759623685:=()
def tw5927061737293525814:=()
def tw11635294984024351957:=()
def tw7310393381264248538:=()
def tw10725783347761782285:=()
def tw15507387870921973669:=()
def tw15624845142922591334:=()
def tw3887936055327861109:=()
def tw8343594812265687224:=()
def tw16562238461232590488:=()
def tw5380587040973725462:=()
def tw4346848322438957921:=()
def tw9619388948811387268:=()
def tw11736232289655951101:=()
def tw14408665584582028006:=()
def tw14755288809702772557:=()
def tw1639391767446662599:=()
def tw153126722406320235:=()
def tw11891789828419107942:=()
def tw13088722666797714702:=()
def tw1025579341698461256:=()
def tw14372443373955871207:=()
def tw5166593213203923211:=()
def tw1858105090061530352:=()
def tw10384428328805659323:=()
def tw17577867472074005691:=()
def tw8837319668515717056:=()
def tw12790906670365936933:=()
def tw15775894488413198554:=()
def tw4990467424274817136:=()
def tw7775836935809136476:=()
def tw5354668146673217281:=()
def tw7142647109524095016:=()
def tw4356953523147024914:=()
def tw4489791161242091039:=()
def tw8440115287016366876:=()
def tw3710971095720411614:=()
def tw16274921761000057609:=()
def tw6772917110404254684:=()
def tw4049742254436704869:=()
def tw6807206032088801404:=()
def tw9779019340162280046:=()
def tw14230119971790983164:=()
def tw935233661206644413:=()
def tw6484547968406210580:=()
def tw7375998727704763081:=()
def tw2065877950079487694:=()
def tw16301431030489312170:=()
def tw8674994273508287980:=()
def tw7896120461845598172:=()
def tw7231320025718577570:=()
def tw13714588265531473278:=()
def tw10941767054519665350:=()
def tw2147635596904259313:=()
def tw4594693557958884247:=()
def tw3324536113035291654:=()
def tw11782736738901373591:=()
def tw8054589236371307515:=()
def tw92500230231700626:=()
end PySem.W.Fast
set_option maxRecDepth 100000 in
set_option maxHeartbeats 0 in
theorem PySem.Challenge.cw_ownshelf_k22_two_sets_holds : PySem.Challenge.rw_ownshelf_k22_two_sets.Holds := by
 w_on;o_law;k_head;(case hw=>w_witness2)
 k_fill
 refine F.law_walkT (l:=PySem.Challenge.rw_ownshelf_k22_two_sets) (k:=132) (g:=Pg.g_law) (x:="_law_script") Pg.tabs rfl rfl ⟨rfl,by decide,by decide⟩ (by decide) (by decide) rfl Pg.law_ok ?F
 case F=>
   intro w mg fa h KX G hmg;have ugd:mg "abs"=none:=by refine' z75 KX G ?a_7;k_is
   have uga:mg "bool"=none:=by refine' z75 KX G ?a_8;k_is
   have ugj:mg "int"=none:=by refine' z75 KX G ?a_9;k_is
   have uda:mg "isinstance"=none:=by refine' z75 KX G ?a_10;k_is
   have ugg:mg "len"=none:=by refine' z75 KX G ?a_11;k_is
   have uf2:mg "list"=none:=by refine' z75 KX G ?a_12;k_is
   have ugl:mg "max"=none:=by refine' z75 KX G ?a_13;k_is
   have ufg:mg "range"=none:=by refine' z75 KX G ?a_14;k_is
   have ueg:mg "reversed"=none:=by refine' z75 KX G ?a_15;k_is
   have ue8:mg "sorted"=none:=by refine' z75 KX G ?a_16;k_is
   have ufs:mg "tuple"=none:=by refine' z75 KX G ?a_17;k_is
   have ufq:∃t,mg "ABOUT"=some (.int 1 t):=by refine' F.has_int KX G ?a_18;(case a_18=>k_is)
   have ufp:∃t,mg "AHEAD"=some (.int 0 t):=by refine' F.has_int KX G ?a_19;(case a_19=>k_is)
   have uf6:∃t,mg "BACK"=some (.int 8 t):=by refine' F.has_int KX G ?a_20;(case a_20=>k_is)
   have ue3:∃t,mg "BEHIND"=some (.int 2 t):=by refine' F.has_int KX G ?a_21;(case a_21=>k_is)
   have ue6:∃t,mg "HEIGHT"=some (.int 6 t):=by refine' F.has_int KX G ?a_22;(case a_22=>k_is)
   have uf3:∃t,mg "LEFT"=some (.int 2 t):=by refine' F.has_int KX G ?a_23;(case a_23=>k_is)
   have ufa:∃t,mg "MIDDLE"=some (.int 1 t):=by refine' F.has_int KX G ?a_24;(case a_24=>k_is)
   have ucv:∃t,mg "MOST_THINGS"=some (.int 2000 t):=by refine' F.has_int KX G ?a_25;(case a_25=>k_is)
   have ue1:∃t,mg "NUMBER"=some (.int 0 t):=by refine' F.has_int KX G ?a_26;(case a_26=>k_is)
   have ufi:∃t,mg "RIGHT"=some (.int 4 t):=by refine' F.has_int KX G ?a_27;(case a_27=>k_is)
   have uf7:∃t,mg "SIZE"=some (.int 5 t):=by refine' F.has_int KX G ?a_28;(case a_28=>k_is)
   have uff:∃t,mg "THING"=some (.int 3 t):=by refine' F.has_int KX G ?a_29;(case a_29=>k_is)
   have ufx:∃t,mg "TOTAL"=some (.int 7 t):=by refine' F.has_int KX G ?a_30;(case a_30=>k_is)
   have ue7:∃t,mg "TURNED"=some (.int 3 t):=by refine' F.has_int KX G ?a_31;(case a_31=>k_is)
   have ubn:∃t,mg "VALUES_OF_A_NODE"=some (.int 9 t):=by refine' F.has_int KX G ?a_32;(case a_32=>k_is)
   have ucx:F.Fld (L2.KOf KX) mg "Wood" "adding":=by refine' F.has_fld KX G ?aC_33 (F.has_cls KX G ?aC_33 ?pg_33 ?hd_33 ?po_33 ?sa_33) ?n_33;(case aC_33=>k_is);(case pg_33=>k_is);(case hd_33=>k_is);(case po_33=>k_is);(case sa_33=>k_is);(case n_33=>k_is)
   have ubq:F.Fld (L2.KOf KX) mg "Wood" "nodes_made":=by refine' F.has_fld KX G ?aC_34 (F.has_cls KX G ?aC_34 ?pg_34 ?hd_34 ?po_34 ?sa_34) ?n_34;(case aC_34=>k_is);(case pg_34=>k_is);(case hd_34=>k_is);(case po_34=>k_is);(case sa_34=>k_is);(case n_34=>k_is)
   have ub1:F.HasMk (L2.KOf KX) mg "Wood" "Wood.__init__" Pg.s_Wood___init__ 1:=by refine' F.has_mk1 KX G ?aC_35 ?mk_35 ?kc_35 ?a_35 ?i_35 ?l_35 ?c_35 ?k_35 ?t_35;(case aC_35=>k_is);(case mk_35=>k_is);(case kc_35=>k_is);(case a_35=>k_is);(case i_35=>k_is);(case l_35=>k_is);(case c_35=>k_is);(case k_35=>k_is);(case t_35=>k_is)
   have udp:F.HasDef (L2.KOf KX) mg "_law_bent" Pg.s__law_bent 0:=by refine' F.has_def KX G ?a_36 ?l_36 ?c_36 ?k_36;(case a_36=>k_is);(case l_36=>k_is);(case c_36=>k_is);(case k_36=>k_is)
   have udl:F.HasDef (L2.KOf KX) mg "_law_cell" Pg.s__law_cell 0:=by refine' F.has_def KX G ?a_37 ?l_37 ?c_37 ?k_37;(case a_37=>k_is);(case l_37=>k_is);(case c_37=>k_is);(case k_37=>k_is)
   have ueh:F.HasDef (L2.KOf KX) mg "_law_key" Pg.s__law_key 0:=by refine' F.has_def KX G ?a_38 ?l_38 ?c_38 ?k_38;(case a_38=>k_is);(case l_38=>k_is);(case c_38=>k_is);(case k_38=>k_is)
   have uc8:F.HasDef (L2.KOf KX) mg "_law_alike" Pg.s__law_alike 0:=by refine' F.has_def KX G ?a_39 ?l_39 ?c_39 ?k_39;(case a_39=>k_is);(case l_39=>k_is);(case c_39=>k_is);(case k_39=>k_is)
   have uc0:F.HasDef (L2.KOf KX) mg "_law_sorted" Pg.s__law_sorted 0:=by refine' F.has_def KX G ?a_40 ?l_40 ?c_40 ?k_40;(case a_40=>k_is);(case l_40=>k_is);(case c_40=>k_is);(case k_40=>k_is)
   have uee:F.HasDef (L2.KOf KX) mg "_law_due" Pg.s__law_due 0:=by refine' F.has_def KX G ?a_41 ?l_41 ?c_41 ?k_41;(case a_41=>k_is);(case l_41=>k_is);(case c_41=>k_is);(case k_41=>k_is)
   have ud1:F.HasMth (L2.KOf KX) mg "Wood" "made" "Wood.made" Pg.s_Wood_made:=by refine' F.has_mth KX G ?aC_42 (F.has_cls KX G ?aC_42 ?pg_42 ?hd_42 ?po_42 ?sa_42) ?a_42 ?i_42 ?l_42 ?c_42 ?k_42;(case aC_42=>k_is);(case pg_42=>k_is);(case hd_42=>k_is);(case po_42=>k_is);(case sa_42=>k_is);(case a_42=>k_is);(case i_42=>k_is);(case l_42=>k_is);(case c_42=>k_is);(case k_42=>k_is)
   have uci:F.HasDef (L2.KOf KX) mg "_law_of_wood" Pg.s__law_of_wood 0:=by refine' F.has_def KX G ?a_43 ?l_43 ?c_43 ?k_43;(case a_43=>k_is);(case l_43=>k_is);(case c_43=>k_is);(case k_43=>k_is)
   have ub4:F.HasMth (L2.KOf KX) mg "Wood" "numbered" "Wood.numbered" Pg.s_Wood_numbered:=by refine' F.has_mth KX G ?aC_44 (F.has_cls KX G ?aC_44 ?pg_44 ?hd_44 ?po_44 ?sa_44) ?a_44 ?i_44 ?l_44 ?c_44 ?k_44;(case aC_44=>k_is);(case pg_44=>k_is);(case hd_44=>k_is);(case po_44=>k_is);(case sa_44=>k_is);(case a_44=>k_is);(case i_44=>k_is);(case l_44=>k_is);(case c_44=>k_is);(case k_44=>k_is)
   have ugb:F.HasDef (L2.KOf KX) mg "back" Pg.s_back 0:=by refine' F.has_def KX G ?a_45 ?l_45 ?c_45 ?k_45;(case a_45=>k_is);(case l_45=>k_is);(case c_45=>k_is);(case k_45=>k_is)
   have ue0:F.HasDef (L2.KOf KX) mg "height" Pg.s_height 0:=by refine' F.has_def KX G ?a_46 ?l_46 ?c_46 ?k_46;(case a_46=>k_is);(case l_46=>k_is);(case c_46=>k_is);(case k_46=>k_is)
   have uf8:F.HasDef (L2.KOf KX) mg "size" Pg.s_size 0:=by refine' F.has_def KX G ?a_47 ?l_47 ?c_47 ?k_47;(case a_47=>k_is);(case l_47=>k_is);(case c_47=>k_is);(case k_47=>k_is)
   have ufr:F.HasDef (L2.KOf KX) mg "total" Pg.s_total 0:=by refine' F.has_def KX G ?a_48 ?l_48 ?c_48 ?k_48;(case a_48=>k_is);(case l_48=>k_is);(case c_48=>k_is);(case k_48=>k_is)
   have ucr:F.HasMth (L2.KOf KX) mg "Wood" "turned" "Wood.turned" Pg.s_Wood_turned:=by refine' F.has_mth KX G ?aC_49 (F.has_cls KX G ?aC_49 ?pg_49 ?hd_49 ?po_49 ?sa_49) ?a_49 ?i_49 ?l_49 ?c_49 ?k_49;(case aC_49=>k_is);(case pg_49=>k_is);(case hd_49=>k_is);(case po_49=>k_is);(case sa_49=>k_is);(case a_49=>k_is);(case i_49=>k_is);(case l_49=>k_is);(case c_49=>k_is);(case k_49=>k_is)
   have udf:F.HasDef (L2.KOf KX) mg "check_room" Pg.s_check_room 0:=by refine' F.has_def KX G ?a_50 ?l_50 ?c_50 ?k_50;(case a_50=>k_is);(case l_50=>k_is);(case c_50=>k_is);(case k_50=>k_is)
   have uce:F.HasDef (L2.KOf KX) mg "height_above" Pg.s_height_above 0:=by refine' F.has_def KX G ?a_51 ?l_51 ?c_51 ?k_51;(case a_51=>k_is);(case l_51=>k_is);(case c_51=>k_is);(case k_51=>k_is)
   have ude:F.HasDef (L2.KOf KX) mg "in_balance" Pg.s_in_balance 0:=by refine' F.has_def KX G ?a_52 ?l_52 ?c_52 ?k_52;(case a_52=>k_is);(case l_52=>k_is);(case c_52=>k_is);(case k_52=>k_is)
   have uc6:F.HasDef (L2.KOf KX) mg "size_above" Pg.s_size_above 0:=by refine' F.has_def KX G ?a_53 ?l_53 ?c_53 ?k_53;(case a_53=>k_is);(case l_53=>k_is);(case c_53=>k_is);(case k_53=>k_is)
   have ucb:F.HasDef (L2.KOf KX) mg "backward_sum" Pg.s_backward_sum 0:=by refine' F.has_def KX G ?a_54 ?l_54 ?c_54 ?k_54;(case a_54=>k_is);(case l_54=>k_is);(case c_54=>k_is);(case k_54=>k_is)
   have udc:F.HasDef (L2.KOf KX) mg "onward_sum" Pg.s_onward_sum 0:=by refine' F.has_def KX G ?a_55 ?l_55 ?c_55 ?k_55;(case a_55=>k_is);(case l_55=>k_is);(case c_55=>k_is);(case k_55=>k_is)
   have udg:F.HasDef (L2.KOf KX) mg "sums_above" Pg.s_sums_above 0:=by refine' F.has_def KX G ?a_56 ?l_56 ?c_56 ?k_56;(case a_56=>k_is);(case l_56=>k_is);(case c_56=>k_is);(case k_56=>k_is)
   have udr:F.HasMth (L2.KOf KX) mg "Wood" "node" "Wood.node" Pg.s_Wood_node:=by refine' F.has_mth KX G ?aC_57 (F.has_cls KX G ?aC_57 ?pg_57 ?hd_57 ?po_57 ?sa_57) ?a_57 ?i_57 ?l_57 ?c_57 ?k_57;(case aC_57=>k_is);(case pg_57=>k_is);(case hd_57=>k_is);(case po_57=>k_is);(case sa_57=>k_is);(case a_57=>k_is);(case i_57=>k_is);(case l_57=>k_is);(case c_57=>k_is);(case k_57=>k_is)
   have ufv:F.HasDef (L2.KOf KX) mg "built" Pg.s_built 0:=by refine' F.has_def KX G ?a_58 ?l_58 ?c_58 ?k_58;(case a_58=>k_is);(case l_58=>k_is);(case c_58=>k_is);(case k_58=>k_is)
   have ueq:F.HasDef (L2.KOf KX) mg "make_of" Pg.s_make_of 0:=by refine' F.has_def KX G ?a_59 ?l_59 ?c_59 ?k_59;(case a_59=>k_is);(case l_59=>k_is);(case c_59=>k_is);(case k_59=>k_is)
   have ub0:F.HasDef (L2.KOf KX) mg "check_stretch" Pg.s_check_stretch 0:=by refine' F.has_def KX G ?a_60 ?l_60 ?c_60 ?k_60;(case a_60=>k_is);(case l_60=>k_is);(case c_60=>k_is);(case k_60=>k_is)
   have ufw:F.HasDef (L2.KOf KX) mg "parts" Pg.s_parts 0:=by refine' F.has_def KX G ?a_61 ?l_61 ?c_61 ?k_61;(case a_61=>k_is);(case l_61=>k_is);(case c_61=>k_is);(case k_61=>k_is)
   have uck:F.HasDef (L2.KOf KX) mg "lifted_left" Pg.s_lifted_left 0:=by refine' F.has_def KX G ?a_62 ?l_62 ?c_62 ?k_62;(case a_62=>k_is);(case l_62=>k_is);(case c_62=>k_is);(case k_62=>k_is)
   have uch:F.HasDef (L2.KOf KX) mg "lifted_right" Pg.s_lifted_right 0:=by refine' F.has_def KX G ?a_63 ?l_63 ?c_63 ?k_63;(case a_63=>k_is);(case l_63=>k_is);(case c_63=>k_is);(case k_63=>k_is)
   have uen:F.HasDef (L2.KOf KX) mg "balanced" Pg.s_balanced 0:=by refine' F.has_def KX G ?a_64 ?l_64 ?c_64 ?k_64;(case a_64=>k_is);(case l_64=>k_is);(case c_64=>k_is);(case k_64=>k_is)
   have ufd:F.HasDef (L2.KOf KX) mg "joined" Pg.s_joined 0:=by refine' F.has_def KX G ?a_65 ?l_65 ?c_65 ?k_65;(case a_65=>k_is);(case l_65=>k_is);(case c_65=>k_is);(case k_65=>k_is)
   have ud0:F.HasDef (L2.KOf KX) mg "cut_ahead" Pg.s_cut_ahead 0:=by refine' F.has_def KX G ?a_66 ?l_66 ?c_66 ?k_66;(case a_66=>k_is);(case l_66=>k_is);(case c_66=>k_is);(case k_66=>k_is)
   have uf4:F.HasDef (L2.KOf KX) mg "seen" Pg.s_seen 0:=by refine' F.has_def KX G ?a_67 ?l_67 ?c_67 ?k_67;(case a_67=>k_is);(case l_67=>k_is);(case c_67=>k_is);(case k_67=>k_is)
   have uea:F.HasDef (L2.KOf KX) mg "thing_at" Pg.s_thing_at 0:=by refine' F.has_def KX G ?a_68 ?l_68 ?c_68 ?k_68;(case a_68=>k_is);(case l_68=>k_is);(case c_68=>k_is);(case k_68=>k_is)
   have uby:F.HasDef (L2.KOf KX) mg "laid_together" Pg.s_laid_together 0:=by refine' F.has_def KX G ?a_69 ?l_69 ?c_69 ?k_69;(case a_69=>k_is);(case l_69=>k_is);(case c_69=>k_is);(case k_69=>k_is)
   have udq:F.HasDef (L2.KOf KX) mg "taken_out" Pg.s_taken_out 0:=by refine' F.has_def KX G ?a_70 ?l_70 ?c_70 ?k_70;(case a_70=>k_is);(case l_70=>k_is);(case c_70=>k_is);(case k_70=>k_is)
   have ucs:F.HasDef (L2.KOf KX) mg "turned_part" Pg.s_turned_part 0:=by refine' F.has_def KX G ?a_71 ?l_71 ?c_71 ?k_71;(case a_71=>k_is);(case l_71=>k_is);(case c_71=>k_is);(case k_71=>k_is)
   have uem:F.HasDef (L2.KOf KX) mg "_law_set" Pg.s__law_set 0:=by refine' F.has_def KX G ?a_72 ?l_72 ?c_72 ?k_72;(case a_72=>k_is);(case l_72=>k_is);(case c_72=>k_is);(case k_72=>k_is)
   have uc3:F.HasDef (L2.KOf KX) mg "_law_thing" Pg.s__law_thing 0:=by refine' F.has_def KX G ?a_73 ?l_73 ?c_73 ?k_73;(case a_73=>k_is);(case l_73=>k_is);(case c_73=>k_is);(case k_73=>k_is)
   have ucm:F.HasDef (L2.KOf KX) mg "check_place" Pg.s_check_place 0:=by refine' F.has_def KX G ?a_74 ?l_74 ?c_74 ?k_74;(case a_74=>k_is);(case l_74=>k_is);(case c_74=>k_is);(case k_74=>k_is)
   have ugp:F.HasDef (L2.KOf KX) mg "at" Pg.s_at 0:=by refine' F.has_def KX G ?a_75 ?l_75 ?c_75 ?k_75;(case a_75=>k_is);(case l_75=>k_is);(case c_75=>k_is);(case k_75=>k_is)
   have ucy:F.HasDef (L2.KOf KX) mg "is_alike_at" Pg.s_is_alike_at 0:=by refine' F.has_def KX G ?a_76 ?l_76 ?c_76 ?k_76;(case a_76=>k_is);(case l_76=>k_is);(case c_76=>k_is);(case k_76=>k_is)
   have ub9:F.HasDef (L2.KOf KX) mg "count_before" Pg.s_count_before 0:=by refine' F.has_def KX G ?a_77 ?l_77 ?c_77 ?k_77;(case a_77=>k_is);(case l_77=>k_is);(case c_77=>k_is);(case k_77=>k_is)
   have ued:F.HasDef (L2.KOf KX) mg "place_of" Pg.s_place_of 0:=by refine' F.has_def KX G ?a_78 ?l_78 ?c_78 ?k_78;(case a_78=>k_is);(case l_78=>k_is);(case c_78=>k_is);(case k_78=>k_is)
   have ugm:F.HasDef (L2.KOf KX) mg "has" Pg.s_has 0:=by refine' F.has_def KX G ?a_79 ?l_79 ?c_79 ?k_79;(case a_79=>k_is);(case l_79=>k_is);(case c_79=>k_is);(case k_79=>k_is)
   have ue5:F.HasDef (L2.KOf KX) mg "gather" Pg.s_gather 0:=by refine' F.has_def KX G ?a_80 ?l_80 ?c_80 ?k_80;(case a_80=>k_is);(case l_80=>k_is);(case c_80=>k_is);(case k_80=>k_is)
   have udy:F.HasDef (L2.KOf KX) mg "things_of" Pg.s_things_of 0:=by refine' F.has_def KX G ?a_81 ?l_81 ?c_81 ?k_81;(case a_81=>k_is);(case l_81=>k_is);(case c_81=>k_is);(case k_81=>k_is)
   have ufe:F.HasDef (L2.KOf KX) mg "common" Pg.s_common 0:=by refine' F.has_def KX G ?a_82 ?l_82 ?c_82 ?k_82;(case a_82=>k_is);(case l_82=>k_is);(case c_82=>k_is);(case k_82=>k_is)
   have ufc:F.HasDef (L2.KOf KX) mg "merged" Pg.s_merged 0:=by refine' F.has_def KX G ?a_83 ?l_83 ?c_83 ?k_83;(case a_83=>k_is);(case l_83=>k_is);(case c_83=>k_is);(case k_83=>k_is)
   have ufb:F.HasDef (L2.KOf KX) mg "either" Pg.s_either 0:=by refine' F.has_def KX G ?a_84 ?l_84 ?c_84 ?k_84;(case a_84=>k_is);(case l_84=>k_is);(case c_84=>k_is);(case k_84=>k_is)
   have uf5:F.HasDef (L2.KOf KX) mg "less" Pg.s_less 0:=by refine' F.has_def KX G ?a_85 ?l_85 ?c_85 ?k_85;(case a_85=>k_is);(case l_85=>k_is);(case c_85=>k_is);(case k_85=>k_is)
   have ud5:F.HasDef (L2.KOf KX) mg "_law_told" Pg.s__law_told 0:=by refine' F.has_def KX G ?a_86 ?l_86 ?c_86 ?k_86;(case a_86=>k_is);(case l_86=>k_is);(case c_86=>k_is);(case k_86=>k_is)
   have ud9:F.HasDef (L2.KOf KX) mg "is_whole" Pg.s_is_whole 0:=by refine' F.has_def KX G ?a_87 ?l_87 ?c_87 ?k_87;(case a_87=>k_is);(case l_87=>k_is);(case c_87=>k_is);(case k_87=>k_is)
   have ueb:F.HasDef (L2.KOf KX) mg "has_form" Pg.s_has_form 0:=by refine' F.has_def KX G ?a_88 ?l_88 ?c_88 ?k_88;(case a_88=>k_is);(case l_88=>k_is);(case c_88=>k_is);(case k_88=>k_is)
   have ube:F.HasDef (L2.KOf KX) mg "has_right_measures" Pg.s_has_right_measures 0:=by refine' F.has_def KX G ?a_89 ?l_89 ?c_89 ?k_89;(case a_89=>k_is);(case l_89=>k_is);(case c_89=>k_is);(case k_89=>k_is)
   have ubv:F.HasDef (L2.KOf KX) mg "has_right_sums" Pg.s_has_right_sums 0:=by refine' F.has_def KX G ?a_90 ?l_90 ?c_90 ?k_90;(case a_90=>k_is);(case l_90=>k_is);(case c_90=>k_is);(case k_90=>k_is)
   have uei:F.HasDef (L2.KOf KX) mg "is_right" Pg.s_is_right 1:=by refine' F.has_def1 KX G ?a_91 ?l_91 ?c_91 ?k_91 ?t_91;(case a_91=>k_is);(case l_91=>k_is);(case c_91=>k_is);(case k_91=>k_is);(case t_91=>k_is)
   have ue9:F.HasDef (L2.KOf KX) mg "law" Pg.s_law 0:=by refine' F.has_def KX G ?a_92 ?l_92 ?c_92 ?k_92;(case a_92=>k_is);(case l_92=>k_is);(case c_92=>k_is);(case k_92=>k_is)
   obtain⟨fa',fd,hm,hb,hF⟩:=Pg.law_all (P:=(PySem.Challenge.rw_ownshelf_k22_two_sets).prog) (w:=w) (fun base hB=>⟨ugd,uga,ugj,uda,ugg,uf2,ugl,ufg,ueg,ue8,ufs,ufq,ufp,uf6,ue3,ue6,uf3,ufa,ucv,ue1,ufi,uf7,uff,ufx,ue7,ubn,ucx,ubq,hB,ub1,udp,udl,ueh,uc8,uc0,uee,ud1,uci,ub4,ugb,ue0,uf8,ufr,ucr,udf,uce,ude,uc6,ucb,udc,udg,udr,ufv,ueq,ub0,ufw,uck,uch,uen,ufd,ud0,uf4,uea,uby,udq,ucs,uem,uc3,ucm,ugp,ucy,ub9,ued,ugm,ue5,udy,ufe,ufc,ufb,uf5,ud5,ud9,ueb,ube,ubv,uei,ue9⟩) ue9;have e:=hmg.symm.trans hm;cases e;refine⟨fun i p Q e1 e2=>?_,fd,hb,fun base _ _ hB=>hF base hB⟩
   match i,e1,e2 with
   | 0,e1,e2=>
     cases e1;cases e2;refine' F.has_tab (st:=Pg.s__law_told) KX G ?ta0_94 ?tl0_94 ?tz0_94;(case ta0_94=>k_is);(case tl0_94=>k_is);(case tz0_94=>kernel_rfl)
   | 1,e1,e2=>
     cases e1;cases e2;refine' F.has_tab (st:=Pg.s__law_sorted) KX G ?ta1_94 ?tl1_94 ?tz1_94;(case ta1_94=>k_is);(case tl1_94=>k_is);(case tz1_94=>kernel_rfl)
   | 2,e1,e2=>
     cases e1;cases e2;refine' F.has_tab (st:=Pg.s_law) KX G ?ta2_94 ?tl2_94 ?tz2_94;(case ta2_94=>k_is);(case tl2_94=>k_is);(case tz2_94=>kernel_rfl)
   |i+3,e1,_=>cases e1
