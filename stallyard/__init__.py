"""Stallyard: carts that wish for stalls in a ring."""
