"""Effects that are gone through again and again, in few steps however often."""

from wanehold.effects import chained, through


def strengths_along(effects, strength):
    """List the strengths behind none, one, two, .. of the effects."""
    strengths = [strength]
    for effect in effects:
        strength = through(effect, strength)
        strengths.append(strength)
    return strengths


def through_all(effects, strength):
    """Tell the strength behind all the effects."""
    return strengths_along(effects, strength)[-1]


def settled(effects, strength, times):
    """Tell the strength behind all the effects, gone through so many times, and the least number of times to it.

    Who has more has no less behind, so the strength goes one way, up or down, till it stays. Where a step
    divides, the ways grow so much shorter that it stays soon; otherwise it goes evenly, and is leapt.
    """
    whole = _even_whole(effects)
    done = 0
    while done < times:
        many = min(even_times(whole, strength), times - done)
        if many > 0:
            strength += many * whole[1]
            done += many
        else:
            behind = through_all(effects, strength)
            if behind == strength:
                break
            strength = behind
            done += 1
    return strength, done


def even_times(effect, strength):
    """Tell how many times over, at least, an effect that doesn't divide just adds its number to a strength."""
    if effect is None:
        return 0
    least, add, by, top = effect
    if by != 1 or add == 0 or not least <= strength <= top:
        return 0
    if add > 0:
        return (top - strength) // add
    return (strength - least) // -add


def _even_whole(effects):
    """Tell the effect of all, None where one of them divides: a whole of many would have needlessly great numbers."""
    whole = effects[0]
    for effect in effects[1:]:
        whole = chained(whole, effect)
        if whole is None or whole[2] != 1:
            return None
    return whole
