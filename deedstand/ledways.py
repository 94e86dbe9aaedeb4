"""What a strike does, by leading splices past one another."""

from deedstand.splicing import led_past, spliced


def led_strike(text, splices, which):
    """Return the text with all splices but one done, the later ones led past it; None if it cannot be led."""
    for splice in splices[:which]:
        text = spliced(text, (splice,))
    struck = splices[which]
    for splice in splices[which + 1:]:
        ways = led_past(struck, splice)
        if ways is None:
            return None
        led, struck = ways
        text = spliced(text, (led,))
    return text
